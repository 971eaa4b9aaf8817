/-
  each: is the sequence of a store's keys the document's, left behind so many?
-/
import Derived.Test.YtglhjgfaelfleaaBo
import Derived.LoopNIn
import Derived.Sort.QuietIn
namespace Go.Proofs.Ytglhjgfaelfleaa
open Go.RowKit Go.Shelf
attribute [local go_sem] Oper.semAt_some
set_option linter.unusedVariables false

/-- A region that only reads, in a round: one walk. -/
theorem region_round_quiet {n : Nat} {P : Program} {id lp : Nat} {Q : Exit → Act → World → Prop} {a : Act} {w : World} {l : List Oper} (hm : P.follows .mixedOrders = true) (hd : noDefer l.toArray = true) (hB : Region.lexB .any l.toArray = true)
    (h : wpQuietIn Fence.wide n P l.toArray (fun w' => ∃ n, w' = w.drewN n) (fun a' => ∀ w', (∃ n, w' = w.drewN n) → Q .normal a' w') l a) : (Code.region id l.toArray true).wpIn (Fence.wide.inRound lp) n P Q a w := by
  simp only [Region.lexB, Bool.and_eq_true] at hB
  refine region_round hm hd (wpAnyIn_of_quiet (C := fun w' => ∃ n, w' = w.drewN n) (Q := fun a' => ∀ w', (∃ n, w' = w.drewN n) → Q .normal a' w') rfl (fun _ w' hw' h => h w' hw') _ _ _ _ ⟨1, rfl⟩ ?_)
  have := wpAnyQIn_lex (F := Fence.wide) (n := n) (C := fun w' => ∃ n, w' = w.drewN n) (md := .any) hB.1 l 0 (Array.replicate l.toArray.size false) a (by simp) (by simpa using hB.2) h
  simpa using this

/-- A round's count and its number, in their cells. -/
def RI (S Kb Rb : Nat) (r : Nat) (Wst : World) (pre : List (Bs × Bs)) (W : World) : Prop :=
  Boxed W Kb 3 (.int .i64 (pre.length : Int)) ∧ Boxed W Rb 3 (.int .i64 (r : Int)) ∧ Below S Wst W ∧ KeepsFrom S Wst W
theorem ri_own (S Kb Rb r : Nat) (Wst : World) (hS : S ≤ Wst.heap.size) (B : Nat) (hB : Wst.heap.size ≤ B) : OwnFrom B (RI S Kb Rb r Wst) :=
  OwnFrom.and (Own.from (boxed_own _ _ (fun pre : List (Bs × Bs) => .int .i64 (pre.length : Int))) _)
    (OwnFrom.and (Own.from (boxed_own _ _ (fun _ => .int .i64 (r : Int))) _) (OwnFrom.and (ownFrom_below hS (Nat.le_trans hS hB)) (ownFrom_keepsFrom hB)))
/-- A thing more. -/
theorem ri_more {S Kb Rb r : Nat} {Wst W : World} {pre : List (Bs × Bs)} {x : Bs × Bs} (h : RI S Kb Rb r Wst pre W) (hK : S ≤ Kb) (h2 : Kb ≠ Rb) (n : Nat) :
    RI S Kb Rb r Wst (pre ++ [x]) ((W.drewN n).setCell ⟨Kb, 0, none⟩ (.int .i64 ((pre ++ [x]).length : Int))) ∧
    KeepsFrom 0 W ((W.drewN n).setCell ⟨Kb, 0, none⟩ (.int .i64 ((pre ++ [x]).length : Int))) ∧
    KeepP W ((W.drewN n).setCell ⟨Kb, 0, none⟩ (.int .i64 ((pre ++ [x]).length : Int))) := by
  obtain ⟨b1, b3, hB, hF⟩ := h
  have hd : Below S W (W.drewN n) := (Below.refl _ _).trans ⟨rfl, rfl, rfl, Nat.le_refl _, fun _ _ => rfl⟩
  have d1 : Boxed (W.drewN n) Kb 3 (.int .i64 (pre.length : Int)) := b1
  have d3 : Boxed (W.drewN n) Rb 3 (.int .i64 (r : Int)) := b3
  have hB1 : Below S W ((W.drewN n).setCell ⟨Kb, 0, none⟩ (.int .i64 ((pre ++ [x]).length : Int))) := hd.setCell (p := ⟨Kb, 0, none⟩) hK _
  have kd : KeepsOthers W (W.drewN n) := ⟨Nat.le_refl _, fun _ _ h _ => h⟩
  have k1 : KeepsOthers W ((W.drewN n).setCell ⟨Kb, 0, none⟩ (.int .i64 ((pre ++ [x]).length : Int))) := kd.trans (KeepsOthers.setCell _ _ _)
  refine ⟨⟨d1.set _, d3.other (Ne.symm h2) _, hB.trans hB1, hF.trans (k1.from S)⟩, k1.from 0, hB1.size, fun i c z hi => ?_⟩
  refine (heap_setCell_other (W.drewN n) ⟨Kb, 0, none⟩ i _ (fun e => ?_)).trans hi
  have e' : i = Kb := e
  subst e'
  rw [show W.heap[i]? = _ from b1] at hi
  cases hi
theorem eql_nilK (B : Nat) (w : World) : (binOp .eql 88 (.func (.func 58) #[] #[.pointer (some ⟨B, 0, none⟩)]) .nilFunc).run Try.prog w = .ok (.bool false) w := by kernel_rfl

set_option maxRecDepth 100000 in
set_option maxHeartbeats 8000000 in
theorem eachKv_in (n : Nat) (hn : 5 ≤ n) {N : Nat} {w : World} {b mp ms d : Nat} {vp vs : Value} {K : KV} (h : St w b mp ms K) (hD : DS N w d vp vs K) (stop : Int) :
    CallsIn Fence.wide n Try.prog 17 #[.pointer (some ⟨b, 0, none⟩), .pointer (some ⟨d, 0, none⟩), .int .i64 stop] w fun e w' => e = .returned (.bool true) ∧ Below w.heap.size w w' := by
  obtain ⟨pa, pc, rfl, -, -⟩ := hD.rp.shape
  have hL : K.ps.length ≤ 128 := h.ok.few
  have h1 : 1 ≤ n := by omega
  have HQ : Hid (∀ W, Below w.heap.size w W → St W b mp ms K) := fun W hW => h.below hW
  have HV : Hid (∀ W, Below w.heap.size w W → DS N W d (.slice pa K.ps.length pc) vs K) := fun W hW => hD.below hW
  clear h hD
  refine callsIn_of_wp_marks Try.func17 rfl trivial ?_ rfl
  simp only [Try.ntmps17, List.size_toArray, List.length_cons, List.length_nil, Nat.reduceAdd, Nat.reduceSub, Array.replicate_succ, Array.replicate_zero, List.push_toArray, List.append_toArray, List.nil_append, List.cons_append]
  obtain ⟨W0, hW0⟩ : ∃ W0, ((w.alloc (.cells #[.pointer (some ⟨d, 0, none⟩)] 27)).alloc (.cells #[.int .i64 stop] 3)).alloc (.cells #[.bool false] 4) = W0 := ⟨_, rfl⟩
  have hB0 : Below w.heap.size w W0 := by rw [← hW0]; exact (((Below.refl _ w).alloc (Nat.le_refl _) _).alloc (by simp) _).alloc (by simp; omega) _
  have bW : Boxed W0 w.heap.size 27 (.pointer (some ⟨d, 0, none⟩)) := by rw [← hW0]; exact ((Boxed.new w _ _).alloc _).alloc _
  have bS : Boxed W0 (w.heap.size + 1) 3 (.int .i64 stop) := by
    rw [← hW0]
    have := (Boxed.new (w.alloc (.cells #[.pointer (some ⟨d, 0, none⟩)] 27)) 3 (.int .i64 stop)).alloc (.cells #[.bool false] 4)
    rwa [World.size_alloc] at this
  have bR : Boxed W0 (w.heap.size + 1 + 1) 4 (.bool false) := by
    rw [← hW0]
    have := Boxed.new ((w.alloc (.cells #[.pointer (some ⟨d, 0, none⟩)] 27)).alloc (.cells #[.int .i64 stop] 3)) 4 (.bool false)
    rwa [World.size_alloc, World.size_alloc] at this
  have hz0 : W0.heap.size = w.heap.size + 1 + 1 + 1 := by rw [← hW0]; simp
  gi_wp2_with fail
  clear hW0
  refine ⟨trivial, ?_⟩
  refine (callsIn_wide.2 (each_fn b W0)).mono ?_
  rintro e w9 ⟨rfl, hw9⟩
  have hB9 : Below W0.heap.size W0 w9 := by rw [hw9]; exact (Below.refl _ _).alloc (Nat.le_refl _) _
  have bE : Boxed w9 W0.heap.size 25 (.pointer (some ⟨b, 0, none⟩)) := by rw [hw9]; exact Boxed.new _ _ _
  have bW9 := bW.kept (Below.grownBy' hB9 none) (by simp)
  have bS9 := bS.kept (Below.grownBy' hB9 none) (by simp)
  have bR9 := bR.kept (Below.grownBy' hB9 none) (by simp)
  have hz9 : w9.heap.size = w.heap.size + 1 + 1 + 1 + 1 := by rw [hw9, World.size_alloc, hz0]
  have HW9 : Hid (Below w.heap.size w w9) := hB0.trans (hB9.mono (by omega))
  rw [hz0] at bE
  rw [hz0]
  clear bW bS bR hw9 hB0 hB9 hz0
  have HBun : Hid (∀ W, Below w9.heap.size w9 W → Boxed W w.heap.size 27 (.pointer (some ⟨d, 0, none⟩)) ∧ Boxed W (w.heap.size + 1) 3 (.int .i64 stop) ∧ Boxed W (w.heap.size + 1 + 1) 4 (.bool false) ∧ Boxed W (w.heap.size + 1 + 1 + 1) 25 (.pointer (some ⟨b, 0, none⟩)) ∧ Below w.heap.size w W) := fun W hW =>
    ⟨bW9.kept (Below.grownBy' hW none) (by simp), bS9.kept (Below.grownBy' hW none) (by simp), bR9.kept (Below.grownBy' hW none) (by simp), bE.kept (Below.grownBy' hW none) (by simp), HW9.out.trans (hW.mono HW9.out.size)⟩
  clear bW9 bS9 bR9 bE
  have hz9' : Hid (w9.heap.size = w.heap.size + 1 + 1 + 1 + 1) := hz9
  clear hz9
  have hnil := eql_nilK
  gi_wp2
  clear hnil
  have HB0 : Hid (Below w9.heap.size w9 (w9.alloc (.cells #[.int .i64 0] 3))) := (Below.refl _ _).alloc (Nat.le_refl _) _
  have bR0 := Boxed.new w9 3 (.int .i64 0)
  have HSW0 : Hid (w9.heap.size ≤ (w9.alloc (.cells #[.int .i64 0] 3)).heap.size) := by unfold Hid; simp
  generalize w9.alloc (.cells #[.int .i64 0] 3) = Wz0 at *
  have HM0 : Hid (Marks w9.heap.size Wz0 []) := Marks.nil _ _
  obtain ⟨R0, hR0⟩ : ∃ R0, w9.heap.size = R0 := ⟨_, rfl⟩
  rw [hR0] at bR0
  simp only [hR0]
  have HR0 : Hid (w9.heap.size = R0) := hR0
  clear hR0
  refine wpIn_loop_rounds 3 ?_
  rw [roundsIn_succ]
  have hc0 := bR0.cell
  have HRW0 : Hid (R0 < Wz0.heap.size) := bR0.lt
  gi_wp2
  have hK1 : Boxed (Wz0.alloc (.cells #[.int .i64 0] 3)) Wz0.heap.size 3 (.int .i64 0) := Boxed.new Wz0 3 (.int .i64 0)
  have hR1 : Boxed (Wz0.alloc (.cells #[.int .i64 0] 3)) R0 3 (.int .i64 0) := bR0.alloc _
  have hBst : Below Wz0.heap.size Wz0 (Wz0.alloc (.cells #[.int .i64 0] 3)) := (Below.refl _ _).alloc (Nat.le_refl _) _
  have hsz1 : (Wz0.alloc (.cells #[.int .i64 0] 3)).heap.size = Wz0.heap.size + 1 := by simp
  have hKFr : KeepsFrom w9.heap.size Wz0 (Wz0.alloc (.cells #[.int .i64 0] 3)) := (KeepsOthers.alloc Wz0 _).from _
  generalize hW1 : Wz0.alloc (.cells #[.int .i64 0] 3) = W10 at *
  have hB91 : Below w9.heap.size w9 W10 := HB0.out.trans (hBst.mono HSW0.out)
  obtain ⟨-, -, -, bE, hBw⟩ := HBun.out W10 hB91
  refine range_yields (n := n) (gf := 58) (lb := #[.pointer (some ⟨w.heap.size + 1 + 1 + 1, 0, none⟩)]) rfl (enters_of Try.func58 (by kernel_rfl) rfl)
    (each_yields (n - 1) (by omega) _ b mp ms K W10 bE (HQ.out W10 hBw))
    KeepP.trans
    (fun W l o o' hl hh ho => KeepP.putObj W l o o' hh ho)
    (Below.refl _ _) (fun _ => rfl)
    (fun pre W => RI w9.heap.size Wz0.heap.size R0 0 Wz0 pre W ∧ (0 < stop → (pre.length : Int) < stop)) (fun c pre W => c = .exit 2 ∧ RI w9.heap.size Wz0.heap.size R0 0 Wz0 pre W ∧ (pre.length : Int) = stop ∧ 0 < stop) (OwnFrom.and (ri_own _ _ _ _ _ HSW0.out _ (by omega)) (ownFrom_pure _ _)) (fun c => OwnFrom.and (ownFrom_pure _ _) (OwnFrom.and (ri_own _ _ _ _ _ HSW0.out _ (by omega)) (ownFrom_pure _ _)))
    (fun pre m => ownFrom_pure _ _)
    ⟨⟨hK1, hR1, hBst.mono HSW0.out, hKFr⟩, fun h => by simpa using h⟩
    ?az0 ?assign0 ?body0 ?done0 ?stop0
  case assign0 =>
    intro l x W K hK
    unfold encY at *
    gi_wp2
    exact hK
  case body0 =>
    rintro l' pre x W0' W hI0 hI ⟨q, hx⟩ hlt
    obtain ⟨⟨b1, b3, hBW, hFW⟩, hst⟩ := id hI
    have hB9W : Below w9.heap.size w9 W := HB0.out.trans hBW
    obtain ⟨y1, y2, -, -, y5⟩ := HBun.out W hB9W
    have hDW := HV.out W y5
    obtain ⟨g, cp, hv, -, -, -, hcell⟩ := hDW.rp.at0 (by omega)
    simp only [Value.slice.injEq] at hv
    obtain ⟨hpa, -, -⟩ := hv
    subst hpa
    have hgx : K.ps[pre.length] = x := by simp [hx]
    have x0 := hcell pre.length 0 hlt (by decide)
    have x1 := hcell pre.length 1 hlt (by decide)
    rw [hgx] at x0 x1
    obtain ⟨xk, xv⟩ := x
    have x0' : W.cell? ⟨g, pre.length * 2, none⟩ = some (.string ⟨xk.toArray⟩) := x0
    have x1' : W.cell? ⟨g, pre.length * 2 + 1, none⟩ = some (.string ⟨xv.toArray⟩) := x1
    have hcD := hDW.cells.1
    have hi0 : (0 : Int) ≤ (pre.length : Int) := by omega
    have hlt' : (pre.length : Int) < (K.ps.length : Int) := by omega
    have hge : decide (K.ps.length ≤ pre.length) = false := by simp; omega
    have HRI : Hid (∀ n, RI w9.heap.size Wz0.heap.size R0 0 Wz0 (pre ++ [(xk, xv)]) ((W.drewN n).setCell ⟨Wz0.heap.size, 0, none⟩ (.int .i64 ((pre.length : Int) + 1))) ∧ KeepsFrom 0 W ((W.drewN n).setCell ⟨Wz0.heap.size, 0, none⟩ (.int .i64 ((pre.length : Int) + 1))) ∧ KeepP W ((W.drewN n).setCell ⟨Wz0.heap.size, 0, none⟩ (.int .i64 ((pre.length : Int) + 1)))) := by
      intro n
      have := ri_more (x := (xk, xv)) hI.1 HSW0.out (by have := HRW0.out; omega) n
      have e2 : (((pre ++ [(xk, xv)]).length : Nat) : Int) = (pre.length : Int) + 1 := by simp
      rw [e2] at this
      exact this
    have hcK := b1.cell
    have hcR := b3.cell
    have hfK := b1.frozen
    have hcW := y1.cell
    have hcS := y2.cell
    have HRK : Hid (∀ n v, ((W.drewN n).setCell ⟨Wz0.heap.size, 0, none⟩ v).cell? ⟨R0, 0, none⟩ = some (.int .i64 0)) := fun n v => ((show Boxed (W.drewN n) R0 3 (.int .i64 0) from b3).other (B' := Wz0.heap.size) (by have := HRW0.out; omega) v).cell
    have HSK : Hid (∀ n v, ((W.drewN n).setCell ⟨Wz0.heap.size, 0, none⟩ v).cell? ⟨w.heap.size + 1, 0, none⟩ = some (.int .i64 stop)) := fun n v => ((show Boxed (W.drewN n) (w.heap.size + 1) 3 (.int .i64 stop) from y2).other (B' := Wz0.heap.size) (by have := HSW0.out; have := hz9'.out; omega) v).cell
    have h3 : 1 ≤ n - 1 - 1 := by omega
    clear b1 b3 y1 y2 y5 hI hI0 hBW hFW hB9W hcell hDW x0 x1 hx hgx hlt
    have HST : Hid (0 < stop → (pre.length : Int) < stop) := hst
    clear hst
    by_cases hbr : (pre.length : Int) + 1 = stop
    · have hbr' : ((pre.length : Int) + 1 == stop) = true := by rw [beq_iff_eq]; exact hbr
      have HBR : Hid ((pre.length : Int) + 1 = stop) := hbr
      clear hbr
      gi_wp2_with fail
      refine region_round_quiet (by kernel_rfl) (by kernel_rfl) (by kernel_rfl) ?_
      repeat (gi_big_quiet_step (fail))
      refine wpQuietIn_nil ?_
      intro _ hw'
      obtain ⟨nq, hw''⟩ := hw'
      subst hw''
      have hRK := HRK.out nq
      have hSK := HSK.out nq
      have hcK' : (W.drewN nq).cell? ⟨Wz0.heap.size, 0, none⟩ = some (.int .i64 (pre.length : Int)) := hcK
      have hfK' : (W.drewN nq).frozen? ⟨Wz0.heap.size, 0, none⟩ = false := hfK
      gi_wp2
      obtain ⟨r1, r2, r3⟩ := HRI.out nq
      exact ⟨⟨r2.size, fun k o _ hk ho => r2.same k o (Nat.zero_le _) hk ho⟩, rfl, r1, by have := HBR.out; simp; omega, by have := HBR.out; omega⟩
    · have hbr' : ((pre.length : Int) + 1 == stop) = false := by rw [beq_eq_false_iff_ne]; exact hbr
      gi_wp2_with fail
      refine region_round_quiet (by kernel_rfl) (by kernel_rfl) (by kernel_rfl) ?_
      repeat (gi_big_quiet_step (fail))
      refine wpQuietIn_nil ?_
      intro _ hw'
      obtain ⟨nq, hw''⟩ := hw'
      subst hw''
      have hRK := HRK.out nq
      have hSK := HSK.out nq
      have hcK' : (W.drewN nq).cell? ⟨Wz0.heap.size, 0, none⟩ = some (.int .i64 (pre.length : Int)) := hcK
      have hfK' : (W.drewN nq).frozen? ⟨Wz0.heap.size, 0, none⟩ = false := hfK
      gi_wp2
      obtain ⟨r1, r2, r3⟩ := HRI.out nq
      exact ⟨⟨r2.size, fun k o _ hk ho => r2.same k o (Nat.zero_le _) hk ho⟩, r3, r1, fun h => by have := HST.out h; simp; omega⟩
  case done0 =>
    rintro D0 zs W hD hS hI hK
    obtain ⟨⟨b1, b3, hBW, hFW⟩, hst⟩ := hI
    rw [hS] at b1 hst
    clear hS
    have hmn : min stop (K.ps.length : Int) = (K.ps.length : Int) ∨ ¬ 0 < stop := by
      by_cases h : 0 < stop
      · left; have := hst h; omega
      · exact .inr h
    clear hst
    rcases hmn with hmn | hs0
    · by_cases hs0 : 0 < stop
      · have hB9W : Below w9.heap.size w9 W := HB0.out.trans hBW
        obtain ⟨y1, y2, -, -, y5⟩ := HBun.out W hB9W
        have hcD := (HV.out W y5).cells.1
        have hs0' : decide (0 < stop) = true := by simpa using hs0
        have hcK := b1.cell
        have hcR := b3.cell
        have hcW := y1.cell
        have hcS := y2.cell
        have HBX : Hid (Below w9.heap.size w9 W) := hB9W
        have HFX : Hid (KeepsFrom w9.heap.size Wz0 W) := hFW
        have HK : Hid (W.heap[D0]? = some (.deferred (some []))) := hK
        have HDD : Hid (W10.heap.size ≤ D0) := hD
        have HS1 : Hid (W10.heap.size = Wz0.heap.size + 1) := hsz1
        have HCR2 : Hid (Boxed W R0 3 (.int .i64 0)) := b3
        clear b1 b3 y1 y2 y5 hBW hFW hB9W hK1 hR1 hBst hKFr hB91 hK hD bE hBw hsz1
        gi_wp2_with fail
        gi_quiet (fail)
        obtain ⟨Wq, hWq⟩ : ∃ Wq, W.drewN nq = Wq := ⟨_, rfl⟩
        have HBX2 : Hid (Below w9.heap.size w9 Wq) := by rw [← hWq]; exact Below.drewN' HBX.out nq
        have HFX2 : Hid (KeepsFrom w9.heap.size Wz0 Wq) := by rw [← hWq]; exact ⟨HFX.out.size, HFX.out.same⟩
        have HK2 : Hid (Wq.heap[D0]? = some (.deferred (some []))) := by rw [← hWq]; exact HK.out
        have hcR2 : Wq.cell? ⟨R0, 0, none⟩ = some (.int .i64 0) := by rw [← hWq]; exact hcR
        rw [hWq]
        clear hWq HBX HFX HK HCR2 hcK hcR hcW hcS hcD
        have HB1 : Hid (Below w9.heap.size w9 (Wq.alloc (.cells #[.int .i64 1] 3))) := HBX2.out.alloc HBX2.out.size _
        have bR1 := Boxed.new Wq 3 (.int .i64 1)
        have HSW1 : Hid (w9.heap.size ≤ (Wq.alloc (.cells #[.int .i64 1] 3)).heap.size) := HB1.out.size
        have HM1 : Hid (Marks w9.heap.size (Wq.alloc (.cells #[.int .i64 1] 3)) ({ target := .collected D0, args := #[] } :: [])) := HM0.out.cons (fun E hN hE => below_heap ((Below.refl _ _).alloc (Nat.le_refl _) _) (HFX2.out.same E _ hN hE rfl)) D0 (by have := HSW0.out; have := HDD.out; have := HS1.out; omega) (by have := HDD.out; have := HS1.out; omega) (below_heap ((Below.refl _ _).alloc (Nat.le_refl _) _) HK2.out)
        gi_wp2
        generalize Wq.alloc (.cells #[.int .i64 1] 3) = Wz1 at *
        obtain ⟨R1, hR1⟩ : ∃ R1, Wq.heap.size = R1 := ⟨_, rfl⟩
        rw [hR1] at bR1
        simp only [hR1]
        clear hR1 hcR2 HBX2 HFX2 HK2
        rw [roundsIn_succ]
        have hc0 := bR1.cell
        have HRW1 : Hid (R1 < Wz1.heap.size) := bR1.lt
        gi_wp2
        have hK1 : Boxed (Wz1.alloc (.cells #[.int .i64 0] 3)) Wz1.heap.size 3 (.int .i64 0) := Boxed.new Wz1 3 (.int .i64 0)
        have hR1 : Boxed (Wz1.alloc (.cells #[.int .i64 0] 3)) R1 3 (.int .i64 1) := bR1.alloc _
        have hBst : Below Wz1.heap.size Wz1 (Wz1.alloc (.cells #[.int .i64 0] 3)) := (Below.refl _ _).alloc (Nat.le_refl _) _
        have hsz1 : (Wz1.alloc (.cells #[.int .i64 0] 3)).heap.size = Wz1.heap.size + 1 := by simp
        have hKFr : KeepsFrom w9.heap.size Wz1 (Wz1.alloc (.cells #[.int .i64 0] 3)) := (KeepsOthers.alloc Wz1 _).from _
        generalize hW1 : Wz1.alloc (.cells #[.int .i64 0] 3) = W11 at *
        have hB91 : Below w9.heap.size w9 W11 := HB1.out.trans (hBst.mono HSW1.out)
        obtain ⟨-, -, -, bE, hBw⟩ := HBun.out W11 hB91
        refine range_yields (n := n) (gf := 58) (lb := #[.pointer (some ⟨w.heap.size + 1 + 1 + 1, 0, none⟩)]) rfl (enters_of Try.func58 (by kernel_rfl) rfl)
          (each_yields (n - 1) (by omega) _ b mp ms K W11 bE (HQ.out W11 hBw))
          KeepP.trans
          (fun W l o o' hl hh ho => KeepP.putObj W l o o' hh ho)
          (Below.refl _ _) (fun _ => rfl)
          (RI w9.heap.size Wz1.heap.size R1 1 Wz1) (fun _ _ _ => False) (ri_own _ _ _ _ _ HSW1.out _ (by omega)) (fun _ _ _ _ _ hs _ _ => hs)
          (fun pre m => ownFrom_pure _ _)
          ⟨hK1, hR1, hBst.mono HSW1.out, hKFr⟩
          ?az1a ?assign1a ?body1a ?done1a ?stop1a
        case assign1a =>
          intro l x W K hK
          unfold encY at *
          gi_wp2
          exact hK
        case body1a =>
          rintro l' pre x W0' W hI0 hI ⟨q, hx⟩ hlt
          obtain ⟨b1, b3, hBW, hFW⟩ := id hI
          have hB9W : Below w9.heap.size w9 W := HB1.out.trans hBW
          obtain ⟨y1, y2, -, -, y5⟩ := HBun.out W hB9W
          have hDW := HV.out W y5
          obtain ⟨g, cp, hv, -, -, -, hcell⟩ := hDW.rp.at0 (by omega)
          simp only [Value.slice.injEq] at hv
          obtain ⟨hpa, -, -⟩ := hv
          subst hpa
          have hgx : K.ps[pre.length] = x := by simp [hx]
          have x0 := hcell pre.length 0 hlt (by decide)
          have x1 := hcell pre.length 1 hlt (by decide)
          rw [hgx] at x0 x1
          obtain ⟨xk, xv⟩ := x
          have x0' : W.cell? ⟨g, pre.length * 2, none⟩ = some (.string ⟨xk.toArray⟩) := x0
          have x1' : W.cell? ⟨g, pre.length * 2 + 1, none⟩ = some (.string ⟨xv.toArray⟩) := x1
          have hcD := hDW.cells.1
          have hi0 : (0 : Int) ≤ (pre.length : Int) := by omega
          have hlt' : (pre.length : Int) < (K.ps.length : Int) := by omega
          have hge : decide (K.ps.length ≤ pre.length) = false := by simp; omega
          have HRI : Hid (∀ n, RI w9.heap.size Wz1.heap.size R1 1 Wz1 (pre ++ [(xk, xv)]) ((W.drewN n).setCell ⟨Wz1.heap.size, 0, none⟩ (.int .i64 ((pre.length : Int) + 1))) ∧ KeepsFrom 0 W ((W.drewN n).setCell ⟨Wz1.heap.size, 0, none⟩ (.int .i64 ((pre.length : Int) + 1))) ∧ KeepP W ((W.drewN n).setCell ⟨Wz1.heap.size, 0, none⟩ (.int .i64 ((pre.length : Int) + 1)))) := by
            intro n
            have := ri_more (x := (xk, xv)) hI HSW1.out (by have := HRW1.out; omega) n
            have e2 : (((pre ++ [(xk, xv)]).length : Nat) : Int) = (pre.length : Int) + 1 := by simp
            rw [e2] at this
            exact this
          have hcK := b1.cell
          have hcR := b3.cell
          have hfK := b1.frozen
          have hcW := y1.cell
          have hcS := y2.cell
          have HRK : Hid (∀ n v, ((W.drewN n).setCell ⟨Wz1.heap.size, 0, none⟩ v).cell? ⟨R1, 0, none⟩ = some (.int .i64 1)) := fun n v => ((show Boxed (W.drewN n) R1 3 (.int .i64 1) from b3).other (B' := Wz1.heap.size) (by have := HRW1.out; omega) v).cell
          have HSK : Hid (∀ n v, ((W.drewN n).setCell ⟨Wz1.heap.size, 0, none⟩ v).cell? ⟨w.heap.size + 1, 0, none⟩ = some (.int .i64 stop)) := fun n v => ((show Boxed (W.drewN n) (w.heap.size + 1) 3 (.int .i64 stop) from y2).other (B' := Wz1.heap.size) (by have := HSW1.out; have := hz9'.out; omega) v).cell
          have h3 : 1 ≤ n - 1 - 1 := by omega
          clear b1 b3 y1 y2 y5 hI hI0 hBW hFW hB9W hcell hDW x0 x1 hx hgx hlt
          gi_wp2_with fail
          refine region_round_quiet (by kernel_rfl) (by kernel_rfl) (by kernel_rfl) ?_
          repeat (gi_big_quiet_step (fail))
          refine wpQuietIn_nil ?_
          intro _ hw'
          obtain ⟨nq, hw''⟩ := hw'
          subst hw''
          have hRK := HRK.out nq
          have hSK := HSK.out nq
          have hcK' : (W.drewN nq).cell? ⟨Wz1.heap.size, 0, none⟩ = some (.int .i64 (pre.length : Int)) := hcK
          have hfK' : (W.drewN nq).frozen? ⟨Wz1.heap.size, 0, none⟩ = false := hfK
          gi_wp2
          obtain ⟨r1, r2, r3⟩ := HRI.out nq
          exact ⟨⟨r2.size, fun k o _ hk ho => r2.same k o (Nat.zero_le _) hk ho⟩, r3, r1⟩
        case done1a =>
          rintro D1 zs W hD hS hI hK
          obtain ⟨b1, b3, hBW, hFW⟩ := hI
          rw [hS] at b1
          clear hS
          have hB9W : Below w9.heap.size w9 W := HB1.out.trans hBW
          obtain ⟨y1, y2, -, -, y5⟩ := HBun.out W hB9W
          have hcD := (HV.out W y5).cells.1

          have hcK := b1.cell
          have hcR := b3.cell
          have hcW := y1.cell
          have hcS := y2.cell
          have HBX : Hid (Below w9.heap.size w9 W) := hB9W
          have HFX : Hid (KeepsFrom w9.heap.size Wz1 W) := hFW
          have HK : Hid (W.heap[D1]? = some (.deferred (some []))) := hK
          have HDD : Hid (W11.heap.size ≤ D1) := hD
          have HS1 : Hid (W11.heap.size = Wz1.heap.size + 1) := hsz1
          have HCR2 : Hid (Boxed W R1 3 (.int .i64 1)) := b3
          clear b1 b3 y1 y2 y5 hBW hFW hB9W hK1 hR1 hBst hKFr hB91 hK hD bE hBw hsz1
          gi_wp2_with fail
          gi_quiet (fail)
          obtain ⟨Wq, hWq⟩ : ∃ Wq, W.drewN nq = Wq := ⟨_, rfl⟩
          have HBX2 : Hid (Below w9.heap.size w9 Wq) := by rw [← hWq]; exact Below.drewN' HBX.out nq
          have HFX2 : Hid (KeepsFrom w9.heap.size Wz1 Wq) := by rw [← hWq]; exact ⟨HFX.out.size, HFX.out.same⟩
          have HK2 : Hid (Wq.heap[D1]? = some (.deferred (some []))) := by rw [← hWq]; exact HK.out
          have hcR2 : Wq.cell? ⟨R1, 0, none⟩ = some (.int .i64 1) := by rw [← hWq]; exact hcR
          rw [hWq]
          clear hWq HBX HFX HK HCR2 hcK hcR hcW hcS hcD
          have HB2 : Hid (Below w9.heap.size w9 (Wq.alloc (.cells #[.int .i64 2] 3))) := HBX2.out.alloc HBX2.out.size _
          have bR2 := Boxed.new Wq 3 (.int .i64 2)
          have HSW2 : Hid (w9.heap.size ≤ (Wq.alloc (.cells #[.int .i64 2] 3)).heap.size) := HB2.out.size
          have HM2 : Hid (Marks w9.heap.size (Wq.alloc (.cells #[.int .i64 2] 3)) ({ target := .collected D1, args := #[] } :: [{ target := .collected D0, args := #[] }])) := HM1.out.cons (fun E hN hE => below_heap ((Below.refl _ _).alloc (Nat.le_refl _) _) (HFX2.out.same E _ hN hE rfl)) D1 (by have := HSW1.out; have := HDD.out; have := HS1.out; omega) (by have := HDD.out; have := HS1.out; omega) (below_heap ((Below.refl _ _).alloc (Nat.le_refl _) _) HK2.out)
          gi_wp2
          generalize Wq.alloc (.cells #[.int .i64 2] 3) = Wz2 at *
          obtain ⟨R2, hR2⟩ : ∃ R2, Wq.heap.size = R2 := ⟨_, rfl⟩
          rw [hR2] at bR2
          simp only [hR2]
          clear hR2 hcR2 HBX2 HFX2 HK2
          rw [roundsIn_succ]
          have hc3 := bR2.cell
          have bRes := (HBun.out Wz2 HB2.out).2.2.1
          have hcF := bRes.cell
          have hfF := bRes.frozen
          gi_wp2
          obtain ⟨Ds, hds, hnd, hmk⟩ := HM2.out
          have HF : Hid (Below w.heap.size w (Wz2.setCell ⟨w.heap.size + 1 + 1, 0, none⟩ (.bool true))) := (HW9.out.trans (HB2.out.mono HW9.out.size)).setCell (p := ⟨w.heap.size + 1 + 1, 0, none⟩) (by simp; omega) _
          show LeavesInM _ _ _ _ _ _ _ _ _
          rw [hds]
          refine leave_marks (w.heap.size + 1 + 1 + 1) Ds _ hnd (fun E hE => ⟨by have := (hmk E hE).1; have := hz9'.out; omega, (KeepsOthers.setCell Wz2 ⟨w.heap.size + 1 + 1, 0, none⟩ (.bool true)).same E _ (hmk E hE).2 rfl⟩) (fun w' hBw hcw => ?_) (by have := HSW2.out; have := hz9'.out; simp; omega)
          have hbf := bRes.set (.bool true)
          exact ⟨_, results_cell rfl _ _ (w.heap.size + 1 + 1) true rfl (hcw _ _ hbf rfl), rfl, HF.out.trans (hBw.mono (by omega))⟩
        case stop1a =>
          rintro D c' pre W _ _ h _
          exact h.elim
      · have hB9W : Below w9.heap.size w9 W := HB0.out.trans hBW
        obtain ⟨y1, y2, -, -, y5⟩ := HBun.out W hB9W
        have hcD := (HV.out W y5).cells.1
        have hs0' : decide (0 < stop) = false := by simpa using hs0
        clear hmn
        have hcK := b1.cell
        have hcR := b3.cell
        have hcW := y1.cell
        have hcS := y2.cell
        have HBX : Hid (Below w9.heap.size w9 W) := hB9W
        have HFX : Hid (KeepsFrom w9.heap.size Wz0 W) := hFW
        have HK : Hid (W.heap[D0]? = some (.deferred (some []))) := hK
        have HDD : Hid (W10.heap.size ≤ D0) := hD
        have HS1 : Hid (W10.heap.size = Wz0.heap.size + 1) := hsz1
        have HCR2 : Hid (Boxed W R0 3 (.int .i64 0)) := b3
        clear b1 b3 y1 y2 y5 hBW hFW hB9W hK1 hR1 hBst hKFr hB91 hK hD bE hBw hsz1
        gi_wp2_with fail
        gi_quiet (fail)
        obtain ⟨Wq, hWq⟩ : ∃ Wq, W.drewN nq = Wq := ⟨_, rfl⟩
        have HBX2 : Hid (Below w9.heap.size w9 Wq) := by rw [← hWq]; exact Below.drewN' HBX.out nq
        have HFX2 : Hid (KeepsFrom w9.heap.size Wz0 Wq) := by rw [← hWq]; exact ⟨HFX.out.size, HFX.out.same⟩
        have HK2 : Hid (Wq.heap[D0]? = some (.deferred (some []))) := by rw [← hWq]; exact HK.out
        have hcR2 : Wq.cell? ⟨R0, 0, none⟩ = some (.int .i64 0) := by rw [← hWq]; exact hcR
        rw [hWq]
        clear hWq HBX HFX HK HCR2 hcK hcR hcW hcS hcD
        have HB1 : Hid (Below w9.heap.size w9 (Wq.alloc (.cells #[.int .i64 1] 3))) := HBX2.out.alloc HBX2.out.size _
        have bR1 := Boxed.new Wq 3 (.int .i64 1)
        have HSW1 : Hid (w9.heap.size ≤ (Wq.alloc (.cells #[.int .i64 1] 3)).heap.size) := HB1.out.size
        have HM1 : Hid (Marks w9.heap.size (Wq.alloc (.cells #[.int .i64 1] 3)) ({ target := .collected D0, args := #[] } :: [])) := HM0.out.cons (fun E hN hE => below_heap ((Below.refl _ _).alloc (Nat.le_refl _) _) (HFX2.out.same E _ hN hE rfl)) D0 (by have := HSW0.out; have := HDD.out; have := HS1.out; omega) (by have := HDD.out; have := HS1.out; omega) (below_heap ((Below.refl _ _).alloc (Nat.le_refl _) _) HK2.out)
        gi_wp2
        generalize Wq.alloc (.cells #[.int .i64 1] 3) = Wz1 at *
        obtain ⟨R1, hR1⟩ : ∃ R1, Wq.heap.size = R1 := ⟨_, rfl⟩
        rw [hR1] at bR1
        simp only [hR1]
        clear hR1 hcR2 HBX2 HFX2 HK2
        rw [roundsIn_succ]
        have hc0 := bR1.cell
        have HRW1 : Hid (R1 < Wz1.heap.size) := bR1.lt
        gi_wp2
        have hK1 : Boxed (Wz1.alloc (.cells #[.int .i64 0] 3)) Wz1.heap.size 3 (.int .i64 0) := Boxed.new Wz1 3 (.int .i64 0)
        have hR1 : Boxed (Wz1.alloc (.cells #[.int .i64 0] 3)) R1 3 (.int .i64 1) := bR1.alloc _
        have hBst : Below Wz1.heap.size Wz1 (Wz1.alloc (.cells #[.int .i64 0] 3)) := (Below.refl _ _).alloc (Nat.le_refl _) _
        have hsz1 : (Wz1.alloc (.cells #[.int .i64 0] 3)).heap.size = Wz1.heap.size + 1 := by simp
        have hKFr : KeepsFrom w9.heap.size Wz1 (Wz1.alloc (.cells #[.int .i64 0] 3)) := (KeepsOthers.alloc Wz1 _).from _
        generalize hW1 : Wz1.alloc (.cells #[.int .i64 0] 3) = W11 at *
        have hB91 : Below w9.heap.size w9 W11 := HB1.out.trans (hBst.mono HSW1.out)
        obtain ⟨-, -, -, bE, hBw⟩ := HBun.out W11 hB91
        refine range_yields (n := n) (gf := 58) (lb := #[.pointer (some ⟨w.heap.size + 1 + 1 + 1, 0, none⟩)]) rfl (enters_of Try.func58 (by kernel_rfl) rfl)
          (each_yields (n - 1) (by omega) _ b mp ms K W11 bE (HQ.out W11 hBw))
          KeepP.trans
          (fun W l o o' hl hh ho => KeepP.putObj W l o o' hh ho)
          (Below.refl _ _) (fun _ => rfl)
          (RI w9.heap.size Wz1.heap.size R1 1 Wz1) (fun _ _ _ => False) (ri_own _ _ _ _ _ HSW1.out _ (by omega)) (fun _ _ _ _ _ hs _ _ => hs)
          (fun pre m => ownFrom_pure _ _)
          ⟨hK1, hR1, hBst.mono HSW1.out, hKFr⟩
          ?az1b ?assign1b ?body1b ?done1b ?stop1b
        case assign1b =>
          intro l x W K hK
          unfold encY at *
          gi_wp2
          exact hK
        case body1b =>
          rintro l' pre x W0' W hI0 hI ⟨q, hx⟩ hlt
          obtain ⟨b1, b3, hBW, hFW⟩ := id hI
          have hB9W : Below w9.heap.size w9 W := HB1.out.trans hBW
          obtain ⟨y1, y2, -, -, y5⟩ := HBun.out W hB9W
          have hDW := HV.out W y5
          obtain ⟨g, cp, hv, -, -, -, hcell⟩ := hDW.rp.at0 (by omega)
          simp only [Value.slice.injEq] at hv
          obtain ⟨hpa, -, -⟩ := hv
          subst hpa
          have hgx : K.ps[pre.length] = x := by simp [hx]
          have x0 := hcell pre.length 0 hlt (by decide)
          have x1 := hcell pre.length 1 hlt (by decide)
          rw [hgx] at x0 x1
          obtain ⟨xk, xv⟩ := x
          have x0' : W.cell? ⟨g, pre.length * 2, none⟩ = some (.string ⟨xk.toArray⟩) := x0
          have x1' : W.cell? ⟨g, pre.length * 2 + 1, none⟩ = some (.string ⟨xv.toArray⟩) := x1
          have hcD := hDW.cells.1
          have hi0 : (0 : Int) ≤ (pre.length : Int) := by omega
          have hlt' : (pre.length : Int) < (K.ps.length : Int) := by omega
          have hge : decide (K.ps.length ≤ pre.length) = false := by simp; omega
          have HRI : Hid (∀ n, RI w9.heap.size Wz1.heap.size R1 1 Wz1 (pre ++ [(xk, xv)]) ((W.drewN n).setCell ⟨Wz1.heap.size, 0, none⟩ (.int .i64 ((pre.length : Int) + 1))) ∧ KeepsFrom 0 W ((W.drewN n).setCell ⟨Wz1.heap.size, 0, none⟩ (.int .i64 ((pre.length : Int) + 1))) ∧ KeepP W ((W.drewN n).setCell ⟨Wz1.heap.size, 0, none⟩ (.int .i64 ((pre.length : Int) + 1)))) := by
            intro n
            have := ri_more (x := (xk, xv)) hI HSW1.out (by have := HRW1.out; omega) n
            have e2 : (((pre ++ [(xk, xv)]).length : Nat) : Int) = (pre.length : Int) + 1 := by simp
            rw [e2] at this
            exact this
          have hcK := b1.cell
          have hcR := b3.cell
          have hfK := b1.frozen
          have hcW := y1.cell
          have hcS := y2.cell
          have HRK : Hid (∀ n v, ((W.drewN n).setCell ⟨Wz1.heap.size, 0, none⟩ v).cell? ⟨R1, 0, none⟩ = some (.int .i64 1)) := fun n v => ((show Boxed (W.drewN n) R1 3 (.int .i64 1) from b3).other (B' := Wz1.heap.size) (by have := HRW1.out; omega) v).cell
          have HSK : Hid (∀ n v, ((W.drewN n).setCell ⟨Wz1.heap.size, 0, none⟩ v).cell? ⟨w.heap.size + 1, 0, none⟩ = some (.int .i64 stop)) := fun n v => ((show Boxed (W.drewN n) (w.heap.size + 1) 3 (.int .i64 stop) from y2).other (B' := Wz1.heap.size) (by have := HSW1.out; have := hz9'.out; omega) v).cell
          have h3 : 1 ≤ n - 1 - 1 := by omega
          clear b1 b3 y1 y2 y5 hI hI0 hBW hFW hB9W hcell hDW x0 x1 hx hgx hlt
          gi_wp2_with fail
          refine region_round_quiet (by kernel_rfl) (by kernel_rfl) (by kernel_rfl) ?_
          repeat (gi_big_quiet_step (fail))
          refine wpQuietIn_nil ?_
          intro _ hw'
          obtain ⟨nq, hw''⟩ := hw'
          subst hw''
          have hRK := HRK.out nq
          have hSK := HSK.out nq
          have hcK' : (W.drewN nq).cell? ⟨Wz1.heap.size, 0, none⟩ = some (.int .i64 (pre.length : Int)) := hcK
          have hfK' : (W.drewN nq).frozen? ⟨Wz1.heap.size, 0, none⟩ = false := hfK
          gi_wp2
          obtain ⟨r1, r2, r3⟩ := HRI.out nq
          exact ⟨⟨r2.size, fun k o _ hk ho => r2.same k o (Nat.zero_le _) hk ho⟩, r3, r1⟩
        case done1b =>
          rintro D1 zs W hD hS hI hK
          obtain ⟨b1, b3, hBW, hFW⟩ := hI
          rw [hS] at b1
          clear hS
          have hB9W : Below w9.heap.size w9 W := HB1.out.trans hBW
          obtain ⟨y1, y2, -, -, y5⟩ := HBun.out W hB9W
          have hcD := (HV.out W y5).cells.1

          have hcK := b1.cell
          have hcR := b3.cell
          have hcW := y1.cell
          have hcS := y2.cell
          have HBX : Hid (Below w9.heap.size w9 W) := hB9W
          have HFX : Hid (KeepsFrom w9.heap.size Wz1 W) := hFW
          have HK : Hid (W.heap[D1]? = some (.deferred (some []))) := hK
          have HDD : Hid (W11.heap.size ≤ D1) := hD
          have HS1 : Hid (W11.heap.size = Wz1.heap.size + 1) := hsz1
          have HCR2 : Hid (Boxed W R1 3 (.int .i64 1)) := b3
          clear b1 b3 y1 y2 y5 hBW hFW hB9W hK1 hR1 hBst hKFr hB91 hK hD bE hBw hsz1
          gi_wp2_with fail
          gi_quiet (fail)
          obtain ⟨Wq, hWq⟩ : ∃ Wq, W.drewN nq = Wq := ⟨_, rfl⟩
          have HBX2 : Hid (Below w9.heap.size w9 Wq) := by rw [← hWq]; exact Below.drewN' HBX.out nq
          have HFX2 : Hid (KeepsFrom w9.heap.size Wz1 Wq) := by rw [← hWq]; exact ⟨HFX.out.size, HFX.out.same⟩
          have HK2 : Hid (Wq.heap[D1]? = some (.deferred (some []))) := by rw [← hWq]; exact HK.out
          have hcR2 : Wq.cell? ⟨R1, 0, none⟩ = some (.int .i64 1) := by rw [← hWq]; exact hcR
          rw [hWq]
          clear hWq HBX HFX HK HCR2 hcK hcR hcW hcS hcD
          have HB2 : Hid (Below w9.heap.size w9 (Wq.alloc (.cells #[.int .i64 2] 3))) := HBX2.out.alloc HBX2.out.size _
          have bR2 := Boxed.new Wq 3 (.int .i64 2)
          have HSW2 : Hid (w9.heap.size ≤ (Wq.alloc (.cells #[.int .i64 2] 3)).heap.size) := HB2.out.size
          have HM2 : Hid (Marks w9.heap.size (Wq.alloc (.cells #[.int .i64 2] 3)) ({ target := .collected D1, args := #[] } :: [{ target := .collected D0, args := #[] }])) := HM1.out.cons (fun E hN hE => below_heap ((Below.refl _ _).alloc (Nat.le_refl _) _) (HFX2.out.same E _ hN hE rfl)) D1 (by have := HSW1.out; have := HDD.out; have := HS1.out; omega) (by have := HDD.out; have := HS1.out; omega) (below_heap ((Below.refl _ _).alloc (Nat.le_refl _) _) HK2.out)
          gi_wp2
          generalize Wq.alloc (.cells #[.int .i64 2] 3) = Wz2 at *
          obtain ⟨R2, hR2⟩ : ∃ R2, Wq.heap.size = R2 := ⟨_, rfl⟩
          rw [hR2] at bR2
          simp only [hR2]
          clear hR2 hcR2 HBX2 HFX2 HK2
          rw [roundsIn_succ]
          have hc3 := bR2.cell
          have bRes := (HBun.out Wz2 HB2.out).2.2.1
          have hcF := bRes.cell
          have hfF := bRes.frozen
          gi_wp2
          obtain ⟨Ds, hds, hnd, hmk⟩ := HM2.out
          have HF : Hid (Below w.heap.size w (Wz2.setCell ⟨w.heap.size + 1 + 1, 0, none⟩ (.bool true))) := (HW9.out.trans (HB2.out.mono HW9.out.size)).setCell (p := ⟨w.heap.size + 1 + 1, 0, none⟩) (by simp; omega) _
          show LeavesInM _ _ _ _ _ _ _ _ _
          rw [hds]
          refine leave_marks (w.heap.size + 1 + 1 + 1) Ds _ hnd (fun E hE => ⟨by have := (hmk E hE).1; have := hz9'.out; omega, (KeepsOthers.setCell Wz2 ⟨w.heap.size + 1 + 1, 0, none⟩ (.bool true)).same E _ (hmk E hE).2 rfl⟩) (fun w' hBw hcw => ?_) (by have := HSW2.out; have := hz9'.out; simp; omega)
          have hbf := bRes.set (.bool true)
          exact ⟨_, results_cell rfl _ _ (w.heap.size + 1 + 1) true rfl (hcw _ _ hbf rfl), rfl, HF.out.trans (hBw.mono (by omega))⟩
        case stop1b =>
          rintro D c' pre W _ _ h _
          exact h.elim
    · have hB9W : Below w9.heap.size w9 W := HB0.out.trans hBW
      obtain ⟨y1, y2, -, -, y5⟩ := HBun.out W hB9W
      have hcD := (HV.out W y5).cells.1
      have hs0' : decide (0 < stop) = false := by simpa using hs0
      have hcK := b1.cell
      have hcR := b3.cell
      have hcW := y1.cell
      have hcS := y2.cell
      have HBX : Hid (Below w9.heap.size w9 W) := hB9W
      have HFX : Hid (KeepsFrom w9.heap.size Wz0 W) := hFW
      have HK : Hid (W.heap[D0]? = some (.deferred (some []))) := hK
      have HDD : Hid (W10.heap.size ≤ D0) := hD
      have HS1 : Hid (W10.heap.size = Wz0.heap.size + 1) := hsz1
      have HCR2 : Hid (Boxed W R0 3 (.int .i64 0)) := b3
      clear b1 b3 y1 y2 y5 hBW hFW hB9W hK1 hR1 hBst hKFr hB91 hK hD bE hBw hsz1
      gi_wp2_with fail
      gi_quiet (fail)
      obtain ⟨Wq, hWq⟩ : ∃ Wq, W.drewN nq = Wq := ⟨_, rfl⟩
      have HBX2 : Hid (Below w9.heap.size w9 Wq) := by rw [← hWq]; exact Below.drewN' HBX.out nq
      have HFX2 : Hid (KeepsFrom w9.heap.size Wz0 Wq) := by rw [← hWq]; exact ⟨HFX.out.size, HFX.out.same⟩
      have HK2 : Hid (Wq.heap[D0]? = some (.deferred (some []))) := by rw [← hWq]; exact HK.out
      have hcR2 : Wq.cell? ⟨R0, 0, none⟩ = some (.int .i64 0) := by rw [← hWq]; exact hcR
      rw [hWq]
      clear hWq HBX HFX HK HCR2 hcK hcR hcW hcS hcD
      have HB1 : Hid (Below w9.heap.size w9 (Wq.alloc (.cells #[.int .i64 1] 3))) := HBX2.out.alloc HBX2.out.size _
      have bR1 := Boxed.new Wq 3 (.int .i64 1)
      have HSW1 : Hid (w9.heap.size ≤ (Wq.alloc (.cells #[.int .i64 1] 3)).heap.size) := HB1.out.size
      have HM1 : Hid (Marks w9.heap.size (Wq.alloc (.cells #[.int .i64 1] 3)) ({ target := .collected D0, args := #[] } :: [])) := HM0.out.cons (fun E hN hE => below_heap ((Below.refl _ _).alloc (Nat.le_refl _) _) (HFX2.out.same E _ hN hE rfl)) D0 (by have := HSW0.out; have := HDD.out; have := HS1.out; omega) (by have := HDD.out; have := HS1.out; omega) (below_heap ((Below.refl _ _).alloc (Nat.le_refl _) _) HK2.out)
      gi_wp2
      generalize Wq.alloc (.cells #[.int .i64 1] 3) = Wz1 at *
      obtain ⟨R1, hR1⟩ : ∃ R1, Wq.heap.size = R1 := ⟨_, rfl⟩
      rw [hR1] at bR1
      simp only [hR1]
      clear hR1 hcR2 HBX2 HFX2 HK2
      rw [roundsIn_succ]
      have hc0 := bR1.cell
      have HRW1 : Hid (R1 < Wz1.heap.size) := bR1.lt
      gi_wp2
      have hK1 : Boxed (Wz1.alloc (.cells #[.int .i64 0] 3)) Wz1.heap.size 3 (.int .i64 0) := Boxed.new Wz1 3 (.int .i64 0)
      have hR1 : Boxed (Wz1.alloc (.cells #[.int .i64 0] 3)) R1 3 (.int .i64 1) := bR1.alloc _
      have hBst : Below Wz1.heap.size Wz1 (Wz1.alloc (.cells #[.int .i64 0] 3)) := (Below.refl _ _).alloc (Nat.le_refl _) _
      have hsz1 : (Wz1.alloc (.cells #[.int .i64 0] 3)).heap.size = Wz1.heap.size + 1 := by simp
      have hKFr : KeepsFrom w9.heap.size Wz1 (Wz1.alloc (.cells #[.int .i64 0] 3)) := (KeepsOthers.alloc Wz1 _).from _
      generalize hW1 : Wz1.alloc (.cells #[.int .i64 0] 3) = W11 at *
      have hB91 : Below w9.heap.size w9 W11 := HB1.out.trans (hBst.mono HSW1.out)
      obtain ⟨-, -, -, bE, hBw⟩ := HBun.out W11 hB91
      refine range_yields (n := n) (gf := 58) (lb := #[.pointer (some ⟨w.heap.size + 1 + 1 + 1, 0, none⟩)]) rfl (enters_of Try.func58 (by kernel_rfl) rfl)
        (each_yields (n - 1) (by omega) _ b mp ms K W11 bE (HQ.out W11 hBw))
        KeepP.trans
        (fun W l o o' hl hh ho => KeepP.putObj W l o o' hh ho)
        (Below.refl _ _) (fun _ => rfl)
        (RI w9.heap.size Wz1.heap.size R1 1 Wz1) (fun _ _ _ => False) (ri_own _ _ _ _ _ HSW1.out _ (by omega)) (fun _ _ _ _ _ hs _ _ => hs)
        (fun pre m => ownFrom_pure _ _)
        ⟨hK1, hR1, hBst.mono HSW1.out, hKFr⟩
        ?az1c ?assign1c ?body1c ?done1c ?stop1c
      case assign1c =>
        intro l x W K hK
        unfold encY at *
        gi_wp2
        exact hK
      case body1c =>
        rintro l' pre x W0' W hI0 hI ⟨q, hx⟩ hlt
        obtain ⟨b1, b3, hBW, hFW⟩ := id hI
        have hB9W : Below w9.heap.size w9 W := HB1.out.trans hBW
        obtain ⟨y1, y2, -, -, y5⟩ := HBun.out W hB9W
        have hDW := HV.out W y5
        obtain ⟨g, cp, hv, -, -, -, hcell⟩ := hDW.rp.at0 (by omega)
        simp only [Value.slice.injEq] at hv
        obtain ⟨hpa, -, -⟩ := hv
        subst hpa
        have hgx : K.ps[pre.length] = x := by simp [hx]
        have x0 := hcell pre.length 0 hlt (by decide)
        have x1 := hcell pre.length 1 hlt (by decide)
        rw [hgx] at x0 x1
        obtain ⟨xk, xv⟩ := x
        have x0' : W.cell? ⟨g, pre.length * 2, none⟩ = some (.string ⟨xk.toArray⟩) := x0
        have x1' : W.cell? ⟨g, pre.length * 2 + 1, none⟩ = some (.string ⟨xv.toArray⟩) := x1
        have hcD := hDW.cells.1
        have hi0 : (0 : Int) ≤ (pre.length : Int) := by omega
        have hlt' : (pre.length : Int) < (K.ps.length : Int) := by omega
        have hge : decide (K.ps.length ≤ pre.length) = false := by simp; omega
        have HRI : Hid (∀ n, RI w9.heap.size Wz1.heap.size R1 1 Wz1 (pre ++ [(xk, xv)]) ((W.drewN n).setCell ⟨Wz1.heap.size, 0, none⟩ (.int .i64 ((pre.length : Int) + 1))) ∧ KeepsFrom 0 W ((W.drewN n).setCell ⟨Wz1.heap.size, 0, none⟩ (.int .i64 ((pre.length : Int) + 1))) ∧ KeepP W ((W.drewN n).setCell ⟨Wz1.heap.size, 0, none⟩ (.int .i64 ((pre.length : Int) + 1)))) := by
          intro n
          have := ri_more (x := (xk, xv)) hI HSW1.out (by have := HRW1.out; omega) n
          have e2 : (((pre ++ [(xk, xv)]).length : Nat) : Int) = (pre.length : Int) + 1 := by simp
          rw [e2] at this
          exact this
        have hcK := b1.cell
        have hcR := b3.cell
        have hfK := b1.frozen
        have hcW := y1.cell
        have hcS := y2.cell
        have HRK : Hid (∀ n v, ((W.drewN n).setCell ⟨Wz1.heap.size, 0, none⟩ v).cell? ⟨R1, 0, none⟩ = some (.int .i64 1)) := fun n v => ((show Boxed (W.drewN n) R1 3 (.int .i64 1) from b3).other (B' := Wz1.heap.size) (by have := HRW1.out; omega) v).cell
        have HSK : Hid (∀ n v, ((W.drewN n).setCell ⟨Wz1.heap.size, 0, none⟩ v).cell? ⟨w.heap.size + 1, 0, none⟩ = some (.int .i64 stop)) := fun n v => ((show Boxed (W.drewN n) (w.heap.size + 1) 3 (.int .i64 stop) from y2).other (B' := Wz1.heap.size) (by have := HSW1.out; have := hz9'.out; omega) v).cell
        have h3 : 1 ≤ n - 1 - 1 := by omega
        clear b1 b3 y1 y2 y5 hI hI0 hBW hFW hB9W hcell hDW x0 x1 hx hgx hlt
        gi_wp2_with fail
        refine region_round_quiet (by kernel_rfl) (by kernel_rfl) (by kernel_rfl) ?_
        repeat (gi_big_quiet_step (fail))
        refine wpQuietIn_nil ?_
        intro _ hw'
        obtain ⟨nq, hw''⟩ := hw'
        subst hw''
        have hRK := HRK.out nq
        have hSK := HSK.out nq
        have hcK' : (W.drewN nq).cell? ⟨Wz1.heap.size, 0, none⟩ = some (.int .i64 (pre.length : Int)) := hcK
        have hfK' : (W.drewN nq).frozen? ⟨Wz1.heap.size, 0, none⟩ = false := hfK
        gi_wp2
        obtain ⟨r1, r2, r3⟩ := HRI.out nq
        exact ⟨⟨r2.size, fun k o _ hk ho => r2.same k o (Nat.zero_le _) hk ho⟩, r3, r1⟩
      case done1c =>
        rintro D1 zs W hD hS hI hK
        obtain ⟨b1, b3, hBW, hFW⟩ := hI
        rw [hS] at b1
        clear hS
        have hB9W : Below w9.heap.size w9 W := HB1.out.trans hBW
        obtain ⟨y1, y2, -, -, y5⟩ := HBun.out W hB9W
        have hcD := (HV.out W y5).cells.1

        have hcK := b1.cell
        have hcR := b3.cell
        have hcW := y1.cell
        have hcS := y2.cell
        have HBX : Hid (Below w9.heap.size w9 W) := hB9W
        have HFX : Hid (KeepsFrom w9.heap.size Wz1 W) := hFW
        have HK : Hid (W.heap[D1]? = some (.deferred (some []))) := hK
        have HDD : Hid (W11.heap.size ≤ D1) := hD
        have HS1 : Hid (W11.heap.size = Wz1.heap.size + 1) := hsz1
        have HCR2 : Hid (Boxed W R1 3 (.int .i64 1)) := b3
        clear b1 b3 y1 y2 y5 hBW hFW hB9W hK1 hR1 hBst hKFr hB91 hK hD bE hBw hsz1
        gi_wp2_with fail
        gi_quiet (fail)
        obtain ⟨Wq, hWq⟩ : ∃ Wq, W.drewN nq = Wq := ⟨_, rfl⟩
        have HBX2 : Hid (Below w9.heap.size w9 Wq) := by rw [← hWq]; exact Below.drewN' HBX.out nq
        have HFX2 : Hid (KeepsFrom w9.heap.size Wz1 Wq) := by rw [← hWq]; exact ⟨HFX.out.size, HFX.out.same⟩
        have HK2 : Hid (Wq.heap[D1]? = some (.deferred (some []))) := by rw [← hWq]; exact HK.out
        have hcR2 : Wq.cell? ⟨R1, 0, none⟩ = some (.int .i64 1) := by rw [← hWq]; exact hcR
        rw [hWq]
        clear hWq HBX HFX HK HCR2 hcK hcR hcW hcS hcD
        have HB2 : Hid (Below w9.heap.size w9 (Wq.alloc (.cells #[.int .i64 2] 3))) := HBX2.out.alloc HBX2.out.size _
        have bR2 := Boxed.new Wq 3 (.int .i64 2)
        have HSW2 : Hid (w9.heap.size ≤ (Wq.alloc (.cells #[.int .i64 2] 3)).heap.size) := HB2.out.size
        have HM2 : Hid (Marks w9.heap.size (Wq.alloc (.cells #[.int .i64 2] 3)) ({ target := .collected D1, args := #[] } :: [{ target := .collected D0, args := #[] }])) := HM1.out.cons (fun E hN hE => below_heap ((Below.refl _ _).alloc (Nat.le_refl _) _) (HFX2.out.same E _ hN hE rfl)) D1 (by have := HSW1.out; have := HDD.out; have := HS1.out; omega) (by have := HDD.out; have := HS1.out; omega) (below_heap ((Below.refl _ _).alloc (Nat.le_refl _) _) HK2.out)
        gi_wp2
        generalize Wq.alloc (.cells #[.int .i64 2] 3) = Wz2 at *
        obtain ⟨R2, hR2⟩ : ∃ R2, Wq.heap.size = R2 := ⟨_, rfl⟩
        rw [hR2] at bR2
        simp only [hR2]
        clear hR2 hcR2 HBX2 HFX2 HK2
        rw [roundsIn_succ]
        have hc3 := bR2.cell
        have bRes := (HBun.out Wz2 HB2.out).2.2.1
        have hcF := bRes.cell
        have hfF := bRes.frozen
        gi_wp2
        obtain ⟨Ds, hds, hnd, hmk⟩ := HM2.out
        have HF : Hid (Below w.heap.size w (Wz2.setCell ⟨w.heap.size + 1 + 1, 0, none⟩ (.bool true))) := (HW9.out.trans (HB2.out.mono HW9.out.size)).setCell (p := ⟨w.heap.size + 1 + 1, 0, none⟩) (by simp; omega) _
        show LeavesInM _ _ _ _ _ _ _ _ _
        rw [hds]
        refine leave_marks (w.heap.size + 1 + 1 + 1) Ds _ hnd (fun E hE => ⟨by have := (hmk E hE).1; have := hz9'.out; omega, (KeepsOthers.setCell Wz2 ⟨w.heap.size + 1 + 1, 0, none⟩ (.bool true)).same E _ (hmk E hE).2 rfl⟩) (fun w' hBw hcw => ?_) (by have := HSW2.out; have := hz9'.out; simp; omega)
        have hbf := bRes.set (.bool true)
        exact ⟨_, results_cell rfl _ _ (w.heap.size + 1 + 1) true rfl (hcw _ _ hbf rfl), rfl, HF.out.trans (hBw.mono (by omega))⟩
      case stop1c =>
        rintro D c' pre W _ _ h _
        exact h.elim
  case stop0 =>
    rintro D0 c' pre W hD ⟨kk, hkk, hpre⟩ ⟨rfl, ⟨b1, b3, hBW, hFW⟩, hst, hs0⟩ hK
    rw [hst] at b1
    have hpl : pre.length = kk + 1 := by rw [hpre, List.length_take]; omega
    have hmn : min stop (K.ps.length : Int) = stop := by omega
    clear hpre hpl hst
    have hB9W : Below w9.heap.size w9 W := HB0.out.trans hBW
    obtain ⟨y1, y2, -, -, y5⟩ := HBun.out W hB9W
    have hcD := (HV.out W y5).cells.1
    have hs0' : decide (0 < stop) = true := by simpa using hs0
    have hcK := b1.cell
    have hcR := b3.cell
    have hcW := y1.cell
    have hcS := y2.cell
    have HBX : Hid (Below w9.heap.size w9 W) := hB9W
    have HFX : Hid (KeepsFrom w9.heap.size Wz0 W) := hFW
    have HK : Hid (W.heap[D0]? = some (.deferred (some []))) := hK
    have HDD : Hid (W10.heap.size ≤ D0) := hD
    have HS1 : Hid (W10.heap.size = Wz0.heap.size + 1) := hsz1
    have HCR2 : Hid (Boxed W R0 3 (.int .i64 0)) := b3
    clear b1 b3 y1 y2 y5 hBW hFW hB9W hK1 hR1 hBst hKFr hB91 hK hD bE hBw hsz1
    gi_wp2_with fail
    gi_quiet (fail)
    obtain ⟨Wq, hWq⟩ : ∃ Wq, W.drewN nq = Wq := ⟨_, rfl⟩
    have HBX2 : Hid (Below w9.heap.size w9 Wq) := by rw [← hWq]; exact Below.drewN' HBX.out nq
    have HFX2 : Hid (KeepsFrom w9.heap.size Wz0 Wq) := by rw [← hWq]; exact ⟨HFX.out.size, HFX.out.same⟩
    have HK2 : Hid (Wq.heap[D0]? = some (.deferred (some []))) := by rw [← hWq]; exact HK.out
    have hcR2 : Wq.cell? ⟨R0, 0, none⟩ = some (.int .i64 0) := by rw [← hWq]; exact hcR
    rw [hWq]
    clear hWq HBX HFX HK HCR2 hcK hcR hcW hcS hcD
    have HB1 : Hid (Below w9.heap.size w9 (Wq.alloc (.cells #[.int .i64 1] 3))) := HBX2.out.alloc HBX2.out.size _
    have bR1 := Boxed.new Wq 3 (.int .i64 1)
    have HSW1 : Hid (w9.heap.size ≤ (Wq.alloc (.cells #[.int .i64 1] 3)).heap.size) := HB1.out.size
    have HM1 : Hid (Marks w9.heap.size (Wq.alloc (.cells #[.int .i64 1] 3)) ({ target := .collected D0, args := #[] } :: [])) := HM0.out.cons (fun E hN hE => below_heap ((Below.refl _ _).alloc (Nat.le_refl _) _) (HFX2.out.same E _ hN hE rfl)) D0 (by have := HSW0.out; have := HDD.out; have := HS1.out; omega) (by have := HDD.out; have := HS1.out; omega) (below_heap ((Below.refl _ _).alloc (Nat.le_refl _) _) HK2.out)
    gi_wp2
    generalize Wq.alloc (.cells #[.int .i64 1] 3) = Wz1 at *
    obtain ⟨R1, hR1⟩ : ∃ R1, Wq.heap.size = R1 := ⟨_, rfl⟩
    rw [hR1] at bR1
    simp only [hR1]
    clear hR1 hcR2 HBX2 HFX2 HK2
    rw [roundsIn_succ]
    have hc0 := bR1.cell
    have HRW1 : Hid (R1 < Wz1.heap.size) := bR1.lt
    gi_wp2
    have hK1 : Boxed (Wz1.alloc (.cells #[.int .i64 0] 3)) Wz1.heap.size 3 (.int .i64 0) := Boxed.new Wz1 3 (.int .i64 0)
    have hR1 : Boxed (Wz1.alloc (.cells #[.int .i64 0] 3)) R1 3 (.int .i64 1) := bR1.alloc _
    have hBst : Below Wz1.heap.size Wz1 (Wz1.alloc (.cells #[.int .i64 0] 3)) := (Below.refl _ _).alloc (Nat.le_refl _) _
    have hsz1 : (Wz1.alloc (.cells #[.int .i64 0] 3)).heap.size = Wz1.heap.size + 1 := by simp
    have hKFr : KeepsFrom w9.heap.size Wz1 (Wz1.alloc (.cells #[.int .i64 0] 3)) := (KeepsOthers.alloc Wz1 _).from _
    generalize hW1 : Wz1.alloc (.cells #[.int .i64 0] 3) = W11 at *
    have hB91 : Below w9.heap.size w9 W11 := HB1.out.trans (hBst.mono HSW1.out)
    obtain ⟨-, -, -, bE, hBw⟩ := HBun.out W11 hB91
    refine range_yields (n := n) (gf := 58) (lb := #[.pointer (some ⟨w.heap.size + 1 + 1 + 1, 0, none⟩)]) rfl (enters_of Try.func58 (by kernel_rfl) rfl)
      (each_yields (n - 1) (by omega) _ b mp ms K W11 bE (HQ.out W11 hBw))
      KeepP.trans
      (fun W l o o' hl hh ho => KeepP.putObj W l o o' hh ho)
      (Below.refl _ _) (fun _ => rfl)
      (RI w9.heap.size Wz1.heap.size R1 1 Wz1) (fun _ _ _ => False) (ri_own _ _ _ _ _ HSW1.out _ (by omega)) (fun _ _ _ _ _ hs _ _ => hs)
      (fun pre m => ownFrom_pure _ _)
      ⟨hK1, hR1, hBst.mono HSW1.out, hKFr⟩
      ?az1d ?assign1d ?body1d ?done1d ?stop1d
    case assign1d =>
      intro l x W K hK
      unfold encY at *
      gi_wp2
      exact hK
    case body1d =>
      rintro l' pre x W0' W hI0 hI ⟨q, hx⟩ hlt
      obtain ⟨b1, b3, hBW, hFW⟩ := id hI
      have hB9W : Below w9.heap.size w9 W := HB1.out.trans hBW
      obtain ⟨y1, y2, -, -, y5⟩ := HBun.out W hB9W
      have hDW := HV.out W y5
      obtain ⟨g, cp, hv, -, -, -, hcell⟩ := hDW.rp.at0 (by omega)
      simp only [Value.slice.injEq] at hv
      obtain ⟨hpa, -, -⟩ := hv
      subst hpa
      have hgx : K.ps[pre.length] = x := by simp [hx]
      have x0 := hcell pre.length 0 hlt (by decide)
      have x1 := hcell pre.length 1 hlt (by decide)
      rw [hgx] at x0 x1
      obtain ⟨xk, xv⟩ := x
      have x0' : W.cell? ⟨g, pre.length * 2, none⟩ = some (.string ⟨xk.toArray⟩) := x0
      have x1' : W.cell? ⟨g, pre.length * 2 + 1, none⟩ = some (.string ⟨xv.toArray⟩) := x1
      have hcD := hDW.cells.1
      have hi0 : (0 : Int) ≤ (pre.length : Int) := by omega
      have hlt' : (pre.length : Int) < (K.ps.length : Int) := by omega
      have hge : decide (K.ps.length ≤ pre.length) = false := by simp; omega
      have HRI : Hid (∀ n, RI w9.heap.size Wz1.heap.size R1 1 Wz1 (pre ++ [(xk, xv)]) ((W.drewN n).setCell ⟨Wz1.heap.size, 0, none⟩ (.int .i64 ((pre.length : Int) + 1))) ∧ KeepsFrom 0 W ((W.drewN n).setCell ⟨Wz1.heap.size, 0, none⟩ (.int .i64 ((pre.length : Int) + 1))) ∧ KeepP W ((W.drewN n).setCell ⟨Wz1.heap.size, 0, none⟩ (.int .i64 ((pre.length : Int) + 1)))) := by
        intro n
        have := ri_more (x := (xk, xv)) hI HSW1.out (by have := HRW1.out; omega) n
        have e2 : (((pre ++ [(xk, xv)]).length : Nat) : Int) = (pre.length : Int) + 1 := by simp
        rw [e2] at this
        exact this
      have hcK := b1.cell
      have hcR := b3.cell
      have hfK := b1.frozen
      have hcW := y1.cell
      have hcS := y2.cell
      have HRK : Hid (∀ n v, ((W.drewN n).setCell ⟨Wz1.heap.size, 0, none⟩ v).cell? ⟨R1, 0, none⟩ = some (.int .i64 1)) := fun n v => ((show Boxed (W.drewN n) R1 3 (.int .i64 1) from b3).other (B' := Wz1.heap.size) (by have := HRW1.out; omega) v).cell
      have HSK : Hid (∀ n v, ((W.drewN n).setCell ⟨Wz1.heap.size, 0, none⟩ v).cell? ⟨w.heap.size + 1, 0, none⟩ = some (.int .i64 stop)) := fun n v => ((show Boxed (W.drewN n) (w.heap.size + 1) 3 (.int .i64 stop) from y2).other (B' := Wz1.heap.size) (by have := HSW1.out; have := hz9'.out; omega) v).cell
      have h3 : 1 ≤ n - 1 - 1 := by omega
      clear b1 b3 y1 y2 y5 hI hI0 hBW hFW hB9W hcell hDW x0 x1 hx hgx hlt
      gi_wp2_with fail
      refine region_round_quiet (by kernel_rfl) (by kernel_rfl) (by kernel_rfl) ?_
      repeat (gi_big_quiet_step (fail))
      refine wpQuietIn_nil ?_
      intro _ hw'
      obtain ⟨nq, hw''⟩ := hw'
      subst hw''
      have hRK := HRK.out nq
      have hSK := HSK.out nq
      have hcK' : (W.drewN nq).cell? ⟨Wz1.heap.size, 0, none⟩ = some (.int .i64 (pre.length : Int)) := hcK
      have hfK' : (W.drewN nq).frozen? ⟨Wz1.heap.size, 0, none⟩ = false := hfK
      gi_wp2
      obtain ⟨r1, r2, r3⟩ := HRI.out nq
      exact ⟨⟨r2.size, fun k o _ hk ho => r2.same k o (Nat.zero_le _) hk ho⟩, r3, r1⟩
    case done1d =>
      rintro D1 zs W hD hS hI hK
      obtain ⟨b1, b3, hBW, hFW⟩ := hI
      rw [hS] at b1
      clear hS
      have hB9W : Below w9.heap.size w9 W := HB1.out.trans hBW
      obtain ⟨y1, y2, -, -, y5⟩ := HBun.out W hB9W
      have hcD := (HV.out W y5).cells.1

      have hcK := b1.cell
      have hcR := b3.cell
      have hcW := y1.cell
      have hcS := y2.cell
      have HBX : Hid (Below w9.heap.size w9 W) := hB9W
      have HFX : Hid (KeepsFrom w9.heap.size Wz1 W) := hFW
      have HK : Hid (W.heap[D1]? = some (.deferred (some []))) := hK
      have HDD : Hid (W11.heap.size ≤ D1) := hD
      have HS1 : Hid (W11.heap.size = Wz1.heap.size + 1) := hsz1
      have HCR2 : Hid (Boxed W R1 3 (.int .i64 1)) := b3
      clear b1 b3 y1 y2 y5 hBW hFW hB9W hK1 hR1 hBst hKFr hB91 hK hD bE hBw hsz1
      gi_wp2_with fail
      gi_quiet (fail)
      obtain ⟨Wq, hWq⟩ : ∃ Wq, W.drewN nq = Wq := ⟨_, rfl⟩
      have HBX2 : Hid (Below w9.heap.size w9 Wq) := by rw [← hWq]; exact Below.drewN' HBX.out nq
      have HFX2 : Hid (KeepsFrom w9.heap.size Wz1 Wq) := by rw [← hWq]; exact ⟨HFX.out.size, HFX.out.same⟩
      have HK2 : Hid (Wq.heap[D1]? = some (.deferred (some []))) := by rw [← hWq]; exact HK.out
      have hcR2 : Wq.cell? ⟨R1, 0, none⟩ = some (.int .i64 1) := by rw [← hWq]; exact hcR
      rw [hWq]
      clear hWq HBX HFX HK HCR2 hcK hcR hcW hcS hcD
      have HB2 : Hid (Below w9.heap.size w9 (Wq.alloc (.cells #[.int .i64 2] 3))) := HBX2.out.alloc HBX2.out.size _
      have bR2 := Boxed.new Wq 3 (.int .i64 2)
      have HSW2 : Hid (w9.heap.size ≤ (Wq.alloc (.cells #[.int .i64 2] 3)).heap.size) := HB2.out.size
      have HM2 : Hid (Marks w9.heap.size (Wq.alloc (.cells #[.int .i64 2] 3)) ({ target := .collected D1, args := #[] } :: [{ target := .collected D0, args := #[] }])) := HM1.out.cons (fun E hN hE => below_heap ((Below.refl _ _).alloc (Nat.le_refl _) _) (HFX2.out.same E _ hN hE rfl)) D1 (by have := HSW1.out; have := HDD.out; have := HS1.out; omega) (by have := HDD.out; have := HS1.out; omega) (below_heap ((Below.refl _ _).alloc (Nat.le_refl _) _) HK2.out)
      gi_wp2
      generalize Wq.alloc (.cells #[.int .i64 2] 3) = Wz2 at *
      obtain ⟨R2, hR2⟩ : ∃ R2, Wq.heap.size = R2 := ⟨_, rfl⟩
      rw [hR2] at bR2
      simp only [hR2]
      clear hR2 hcR2 HBX2 HFX2 HK2
      rw [roundsIn_succ]
      have hc3 := bR2.cell
      have bRes := (HBun.out Wz2 HB2.out).2.2.1
      have hcF := bRes.cell
      have hfF := bRes.frozen
      gi_wp2
      obtain ⟨Ds, hds, hnd, hmk⟩ := HM2.out
      have HF : Hid (Below w.heap.size w (Wz2.setCell ⟨w.heap.size + 1 + 1, 0, none⟩ (.bool true))) := (HW9.out.trans (HB2.out.mono HW9.out.size)).setCell (p := ⟨w.heap.size + 1 + 1, 0, none⟩) (by simp; omega) _
      show LeavesInM _ _ _ _ _ _ _ _ _
      rw [hds]
      refine leave_marks (w.heap.size + 1 + 1 + 1) Ds _ hnd (fun E hE => ⟨by have := (hmk E hE).1; have := hz9'.out; omega, (KeepsOthers.setCell Wz2 ⟨w.heap.size + 1 + 1, 0, none⟩ (.bool true)).same E _ (hmk E hE).2 rfl⟩) (fun w' hBw hcw => ?_) (by have := HSW2.out; have := hz9'.out; simp; omega)
      have hbf := bRes.set (.bool true)
      exact ⟨_, results_cell rfl _ _ (w.heap.size + 1 + 1) true rfl (hcw _ _ hbf rfl), rfl, HF.out.trans (hBw.mono (by omega))⟩
    case stop1d =>
      rintro D c' pre W _ _ h _
      exact h.elim

end Go.Proofs.Ytglhjgfaelfleaa
