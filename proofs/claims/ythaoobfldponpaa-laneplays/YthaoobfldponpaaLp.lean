/-
  LanePlays: the walk of the law.
-/
import Derived.Test.YthaoobfldponpaaBld
namespace Go.Proofs.Ythaoobfldponpaa
open Go.RowKit
set_option linter.unusedVariables false

theorem step_append_ow {ops : Array Oper} {o : Oper} {a : Act} {w : World} {K : Act → World → Prop} {Q : Exit → Act → World → Prop} {E : Prop}
    (hg : o.guard = none) (s x : Operand) (hop : o.op = Op.call { callee := Callee.builtin Builtin.append, args := #[s, x], argTypes := #[26, 26] })
    (N M : Nat) (v xv : Value) (l m : List Int) (hs : a.eval s = v) (hv : Ow N w v l) (hx : a.eval x = xv) (hsl : Sl M w xv m) (hlen : l.length + m.length ≤ 1099511627776) (hN : N ≤ w.heap.size)
    (hK : ∀ v' w', Ow N w' v' (l ++ m) → w.grownBy w' v.ownBlock → (v'.ownBlock = v.ownBlock ∨ v'.ownBlock = some w.heap.size) → K (a.put o.dst v') w') :
    if Region.wanted o (yielded ops a.tmps) = true then Oper.wp Try.prog o a w K Q else E := by
  have hw : Region.wanted o (yielded ops a.tmps) = true := by simp [Region.wanted, hg]
  rw [if_pos hw]
  obtain ⟨v', w', hr, h2, h3, h4⟩ := run_append_ow o.type w N M v xv l m hv hsl hlen hN
  unfold Oper.wp
  simp [execOp, hop, resolve, invoke, builtin, hs, hx, hr, Result.andThen]
  exact hK v' w' h2 h3 h4

theorem own0 (w : World) : Ow w.heap.size (w.alloc (.cells #[] 3)) (.slice (some ⟨w.heap.size, 0, none⟩) 0 0) [] :=
  ⟨by simp, .inr ⟨w.heap.size, 0, #[], rfl, Nat.le_refl _, heap_alloc_new w _, by simp, by unfold maxLen; omega, by simp, by simp⟩⟩

theorem next_mod {la nx n k : Nat} (h : (la + 1) % n = nx % n) (hk : 1 ≤ k) : (la + k) % n = (nx + (k - 1)) % n := by
  rw [show la + k = (la + 1) + (k - 1) from by omega, Nat.add_mod, h, ← Nat.add_mod]

set_option maxRecDepth 100000 in
set_option maxHeartbeats 20000000 in
theorem lanePlays_walk (lanes : Int) (hr0 : In64 lanes) (room : Int) (hr : In64 room) (a : Option Addr) (ca : Nat) (l : List Opn) (w : World) (hl : OpsAt w.heap.size w a l) (hll : l.length ≤ 9223372036854775807) :
    Calls Try.prog 5 #[.int .i64 lanes, .int .i64 room, .slice a l.length ca] w fun e w' => e = .returned (.bool true) ∧ Below w.heap.size w w' := by
  have HL : Hid (OpsAt w.heap.size w a l) := hl
  clear hl hll hr hr0
  by_cases hbad : ¬ ((1 ≤ lanes ∧ lanes ≤ 64) ∧ (1 ≤ room ∧ room ≤ 64))
  · have HNO : Hid ((decide (1 ≤ lanes) && decide (lanes ≤ 64)) = false ∨ (decide (1 ≤ room) && decide (room ≤ 64)) = false) := by
      show _ ∨ _
      by_cases h1 : 1 ≤ lanes ∧ lanes ≤ 64
      · right; simp; omega
      · left; simp; omega
    by_cases h1 : 1 ≤ lanes
    · by_cases h2 : lanes ≤ 64
      · by_cases h3 : 1 ≤ room
        · have h4 : decide (room ≤ 64) = false := by simp; omega
          clear hbad
          go_enter Try.func5, Try.ntmps5
          go_wp2_with fail
          refine (first_any w).mono ?_
          rintro e w1 ⟨rfl, hB1⟩
          have HB1 : Hid (Below w.heap.size w w1) := hB1
          clear hB1
          go_wp2_with fail
          refine (newLanes_none lanes room w1 HNO.out).mono ?_
          rintro e wx ⟨rfl, hwx⟩
          subst wx
          go_wp2
          go_ret
          exact ⟨rfl, HB1.out⟩
        · have h4 : decide (1 ≤ room) = false := by simp; omega
          clear hbad h3
          go_enter Try.func5, Try.ntmps5
          go_wp2_with fail
          refine (first_any w).mono ?_
          rintro e w1 ⟨rfl, hB1⟩
          have HB1 : Hid (Below w.heap.size w w1) := hB1
          clear hB1
          go_wp2_with fail
          refine (newLanes_none lanes room w1 HNO.out).mono ?_
          rintro e wx ⟨rfl, hwx⟩
          subst wx
          go_wp2
          go_ret
          exact ⟨rfl, HB1.out⟩
      · have h4 : decide (lanes ≤ 64) = false := by simp; omega
        clear hbad h2
        go_enter Try.func5, Try.ntmps5
        go_wp2_with fail
        refine (first_any w).mono ?_
        rintro e w1 ⟨rfl, hB1⟩
        have HB1 : Hid (Below w.heap.size w w1) := hB1
        clear hB1
        go_wp2_with fail
        refine (newLanes_none lanes room w1 HNO.out).mono ?_
        rintro e wx ⟨rfl, hwx⟩
        subst wx
        go_wp2
        go_ret
        exact ⟨rfl, HB1.out⟩
    · have h4 : decide (1 ≤ lanes) = false := by simp; omega
      clear hbad h1
      go_enter Try.func5, Try.ntmps5
      go_wp2_with fail
      refine (first_any w).mono ?_
      rintro e w1 ⟨rfl, hB1⟩
      have HB1 : Hid (Below w.heap.size w w1) := hB1
      clear hB1
      go_wp2_with fail
      refine (newLanes_none lanes room w1 HNO.out).mono ?_
      rintro e wx ⟨rfl, hwx⟩
      subst wx
      go_wp2
      go_ret
      exact ⟨rfl, HB1.out⟩
  have hgood : (1 ≤ lanes ∧ lanes ≤ 64) ∧ (1 ≤ room ∧ room ≤ 64) := Classical.not_not.1 hbad
  clear hbad
  obtain ⟨n, rfl⟩ : ∃ n : Nat, lanes = (n : Int) := ⟨lanes.toNat, by omega⟩
  obtain ⟨R, rfl⟩ : ∃ R : Nat, room = (R : Int) := ⟨room.toNat, by omega⟩
  have hn1 : 1 ≤ n := by omega
  have hn64 : n ≤ 64 := by omega
  have hR1 : 1 ≤ R := by omega
  have hR2 : R ≤ 64 := by omega
  clear hgood
  go_enter Try.func5, Try.ntmps5
  go_wp2_with fail
  refine (first_any w).mono ?_
  rintro e w1 ⟨rfl, hB1⟩
  have HB1 : Hid (Below w.heap.size w w1) := hB1
  clear hB1
  go_wp2_with fail
  refine (newLanes_any w.heap.size n R w1 HB1.out.size hn1 hn64 hR1 hR2).mono ?_
  rintro e w2 ⟨rfl, hl2, hB2⟩
  have HL2 : Hid (La w.heap.size (fun i => w1.heap.size ≤ i ∧ i < w1.heap.size + (n + 2)) w2 (w1.heap.size + 1 + n) n R 0 (fun _ => [])) := hl2
  have HB2 : Hid (Below w.heap.size w w2) := HB1.out.trans (hB2.mono HB1.out.size)
  clear hl2 hB2 HB1
  obtain ⟨d, HD⟩ : ∃ d, Hid (w1.heap.size + 1 + n = d) := ⟨_, rfl⟩
  rw [HD.out] at HL2 ⊢
  have hi1 : (1 : Int) ≤ (n : Int) := by omega
  have hi2 : (n : Int) ≤ 64 := by omega
  have hi3 : (1 : Int) ≤ (R : Int) := by omega
  have hi4 : (R : Int) ≤ 64 := by omega
  by_cases hlen : 400 < l.length
  · have hg : decide ((400 : Int) < (l.length : Int)) = true := by simp; omega
    clear hlen
    go_wp2
    go_ret
    exact ⟨rfl, HB2.out⟩
  have hg : decide ((400 : Int) < (l.length : Int)) = false := by simp; omega
  obtain ⟨cs0, hmk, hmx⟩ := run_mx w.heap.size n hn64 w2 HB2.out.size
  have HM3 : Hid (LM w.heap.size (fun i => w1.heap.size ≤ i ∧ i < w1.heap.size + (n + 2)) (fun i => i = w2.heap.size) (w2.alloc (.cells cs0 26)) d w2.heap.size n R 0 (fun _ => .slice none 0 0) (fun _ => []) (fun _ => [])) :=
    ⟨La.below HL2.out ((Below.refl _ w2).alloc (Nat.le_refl _) _), hmx, fun i h1 h2 => by have := La.inn HL2.out i h1; omega⟩
  have HB3 : Hid (Below w.heap.size w (w2.alloc (.cells cs0 26))) := HB2.out.alloc HB2.out.size _
  have hwl : IntKind.i64.wrap ((n : Int) - 1) = ((n - 1 : Nat) : Int) := by rw [IntKind.wrap_i64]; omega
  clear hmx HL2 HB2 HD
  generalize hmm : w2.heap.size = m at *
  clear hmm
  go_wp2
  go_loopw [11, 12] (fun lv iv wr => ∃ (i la nx : Nat) (S S' : Nat → Prop) (vs : Nat → Value) (ls : Nat → List Int), lv = .int .i64 (la : Int) ∧ iv = .int .i64 (i : Int) ∧ i ≤ l.length ∧ la < n ∧ (la + 1) % n = nx % n ∧ LM w.heap.size S S' wr d m n R nx vs ls ls ∧ Below w.heap.size w wr) (fun _ iv _ => l.length - (intOf iv).toNat)
  case atStart => exact ⟨0, n - 1, 0, _, _, _, _, rfl, rfl, Nat.zero_le _, by omega, by rw [show n - 1 + 1 = n from by omega]; simp, by simpa using HM3.out, by simpa using HB3.out⟩
  case round =>
    obtain ⟨i, la, nx, S, S', vs, ls, rfl, rfl, hi, hla, hmod, hM, hB⟩ := hrel
    have HM0 : Hid (LM w.heap.size S S' wr d m n R nx vs ls ls) := hM
    have HB0 : Hid (Below w.heap.size w wr) := hB
    have HNUM : Hid _ := hM.la.nums
    have HMOD : Hid ((la + 1) % n = nx % n) := hmod
    clear hM hB HM3 HB3 hmod
    generalize wr = wp at *
    by_cases hnl : l.length ≤ i
    · have hil' : decide ((i : Int) < (l.length : Int)) = false := by simp; omega
      go_wp2_with fail
      refine (rest_any HM0.out).mono ?_
      rintro e w9 ⟨rfl, hB9⟩
      have HB9 : Hid (Below w.heap.size w w9) := HB0.out.trans (hB9.mono HB0.out.size)
      clear hB9
      go_wp2
      go_ret
      exact ⟨rfl, HB9.out⟩
    have hil : i < l.length := by omega
    have hil' : (i : Int) < (l.length : Int) := by omega
    obtain ⟨b0, o0, rfl, hb0, ho0⟩ := HL.out.at hil
    have HO : Hid (OpAt w b0 (o0 + i * 3) (l.getD i nilOp)) := ho0
    generalize l.getD i nilOp = op at *
    obtain ⟨kd0, n0, ln0⟩ := op
    clear ho0
    obtain ⟨⟨e0, e1, e2⟩, -⟩ := HO.out.below hb0 HB0.out
    simp only at e0 e1 e2
    have HBA : Hid (Below wp.heap.size wp (wp.alloc (.cells #[.int .i64 kd0, .int .i64 n0, .int .i64 ln0] 28))) := (Below.refl _ _).alloc (Nat.le_refl _) _
    have HM4 : Hid (LM w.heap.size S S' (wp.alloc (.cells #[.int .i64 kd0, .int .i64 n0, .int .i64 ln0] 28)) d m n R nx vs ls ls) := HM0.out.below HBA.out
    have HB4 : Hid (Below w.heap.size w (wp.alloc (.cells #[.int .i64 kd0, .int .i64 n0, .int .i64 ln0] 28))) := HB0.out.trans (HBA.out.mono HB0.out.size)
    have HAL : Hid ((wp.alloc (.cells #[.int .i64 kd0, .int .i64 n0, .int .i64 ln0] 28)).heap[wp.heap.size]? = some (.cells #[.int .i64 kd0, .int .i64 n0, .int .i64 ln0] 28)) := heap_alloc_new wp _
    have HLT : Hid (wp.heap.size < (wp.alloc (.cells #[.int .i64 kd0, .int .i64 n0, .int .i64 ln0] 28)).heap.size) := by show _ < _; simp
    by_cases hkd : kd0 = 0
    · subst hkd
      by_cases hrange : 0 ≤ ln0 ∧ ln0 < (n : Int)
      · obtain ⟨J, rfl⟩ : ∃ J : Nat, ln0 = (J : Int) := ⟨ln0.toNat, by omega⟩
        have hJ : J < n := by omega
        obtain ⟨aJ, cJ, hvJ, -⟩ := HM4.out.mx.row hJ
        obtain ⟨m1, m2⟩ := HM4.out.mx.cell hJ
        rw [hvJ] at m1
        have hJ1 : J ≤ n - 1 := by omega
        have hmin : min (J : Int) ((n - 1 : Nat) : Int) = (J : Int) := by omega
        have hmax : max (J : Int) 0 = (J : Int) := by omega
        have hpt := lput_any HM4.out.la HB4.out.size J hJ n0
        have hlJ := (HNUM.out.2 J hJ).1
        clear hrange
        by_cases hlt : (ls J).length < R
        · have hd : decide ((ls J).length < R) = true := by simpa using hlt
          have hpl : putL R (ls J) n0 = ls J ++ [n0] := if_pos hlt
          rw [hd, hpl] at hpt
          clear hd hpl
          go_wp2_with fail
          refine hpt.mono ?_
          rintro e w5 ⟨rfl, t5⟩
          have HM5 : Hid (LM w.heap.size (grew S (wp.alloc (.cells #[.int .i64 0, .int .i64 n0, .int .i64 (J : Int)] 28)) w5) S' w5 d m n R nx vs (upd ls J (ls J ++ [n0])) ls) := HM4.out.one t5
          have HB5 : Hid (Below w.heap.size w w5) := HB4.out.trans (t5.bel HB4.out.size)
          have hbo : w5.heap[wp.heap.size]? = some (.cells #[.int .i64 0, .int .i64 n0, .int .i64 (J : Int)] 28) := (t5.out.block _ HLT.out (fun hs => by have := HM0.out.la.inn _ hs; omega)).trans HAL.out
          have c0 : w5.cell? ⟨wp.heap.size, 1, none⟩ = some (.int .i64 n0) := by simp [World.cell?, hbo]
          have c2 : w5.cell? ⟨wp.heap.size, 2, none⟩ = some (.int .i64 (J : Int)) := by simp [World.cell?, hbo]
          obtain ⟨r1, r2⟩ := HM5.out.mx.cell hJ
          rw [hvJ] at r1
          have hJn : (J : Int) < (n : Int) := by omega
          have HBNE : Hid (wp.heap.size ≠ m) := fun e => by have := HM0.out.mx.inn _ HM0.out.mx.Sm; omega
          have HLT5 : Hid (wp.heap.size < w5.heap.size) := Nat.lt_of_lt_of_le HLT.out t5.out.size
          clear t5 hpt e0 e1 e2 m1 m2 HM4 HB4 HM0 HB0 HBA HAL hbo
          have HF : Hid (∀ w', Below w5.heap.size w5 w' → (w'.cell? ⟨wp.heap.size, 1, none⟩ = some (.int .i64 n0) ∧ w'.cell? ⟨wp.heap.size, 2, none⟩ = some (.int .i64 (J : Int)) ∧ w'.cell? ⟨m, J, none⟩ = some (.slice aJ (ls J).length cJ) ∧ w'.frozen? ⟨m, J, none⟩ = false) ∧ Sl w5.heap.size w' (.slice aJ (ls J).length cJ) (ls J)) := fun w' hB => by
            have hm' := HM5.out.mx.below hB
            obtain ⟨f1, f2⟩ := hm'.cell hJ
            rw [hvJ] at f1
            have hr := (HM5.out.mx.rows J hJ).1
            rw [hvJ] at hr
            exact ⟨⟨(hB.cell (p := ⟨wp.heap.size, 1, none⟩) HLT5.out).trans c0, (hB.cell (p := ⟨wp.heap.size, 2, none⟩) HLT5.out).trans c2, f1, f2⟩, (hr.sl (Nat.le_refl _)).below hB⟩
          have BA : Below w5.heap.size w5 (w5.alloc (.cells #[] 3)) := (Below.refl _ _).alloc (Nat.le_refl _) _
          have BB : Below w5.heap.size w5 (w5.alloc (.cells #[.int .i64 n0] 3)) := (Below.refl _ _).alloc (Nat.le_refl _) _
          have BA2 : Below w5.heap.size w5 ((w5.alloc (.cells #[] 3)).alloc (.cells #[.int .i64 n0] 3)) := BA.alloc (by simp) _
          have BB2 : Below w5.heap.size w5 ((w5.alloc (.cells #[.int .i64 n0] 3)).alloc (.cells #[] 3)) := BB.alloc (by simp) _
          obtain ⟨⟨a1, a2, a3, a4⟩, sA⟩ := HF.out _ BA
          obtain ⟨⟨b1, b2, b3, b4⟩, sB⟩ := HF.out _ BB
          obtain ⟨⟨a5, a6, a7, a8⟩, sA2⟩ := HF.out _ BA2
          obtain ⟨⟨b5, b6, b7, b8⟩, sB2⟩ := HF.out _ BB2
          have SA : Hid _ := sA
          have SA2 : Hid _ := sA2
          have SB2 : Hid _ := sB2
          have HBA : Hid _ := BA
          have HBA2 : Hid _ := BA2
          have HBB2 : Hid _ := BB2
          have hlen0 : ([] : List Int).length + (ls J).length ≤ 1099511627776 := by simp; omega
          have hlen1 : (ls J).length + [n0].length ≤ 1099511627776 := by simp; omega
          clear sA sB sA2 sB2 BA BB BA2 BB2
          go_wp2_with fail
          have HEND : Hid (∀ v' w7, Ow w5.heap.size w7 v' (ls J ++ [n0]) → Below w5.heap.size w5 w7 → Mx w.heap.size (grew S' w5 (w7.setCell ⟨m, J, none⟩ v')) (w7.setCell ⟨m, J, none⟩ v') m n (upd vs J v') (upd ls J (ls J ++ [n0])) ∧ Out S' w5 (w7.setCell ⟨m, J, none⟩ v')) := fun v' w7 q1 hB => HM5.out.mx.turn HB5.out.size hJ (Out.of_below hB) (Wo.of q1) (fun g hg => .inr (q1.lt hg).1)
          have hln : (ls J ++ [n0]).length = (ls J).length + 1 := by simp
          have HLN : Hid _ := hln
          clear hln
          have SN1 : Hid (∀ w6, ((w5.alloc (.cells #[] 3)).alloc (.cells #[.int .i64 n0] 3)).grownBy w6 (some w5.heap.size) → Sl w6.heap.size w6 (.slice (some ⟨w5.heap.size + 1, 0, none⟩) 1 1) [n0]) := fun w6 hg => by
            have hs := sl_one (w5.alloc (.cells #[] 3)) n0
            have hsz := hg.size
            simp at hs hsz
            have hbk := hg.block (w5.heap.size + 1) (by simp) (by simp)
            obtain ⟨a9, c9, e9, h1, h2, h3⟩ := hs
            cases e9
            refine ⟨_, _, rfl, h1, h2, .inr ?_⟩
            obtain ⟨b9, o9, e8, hb9, hc9⟩ := h3.resolve_left (by simp)
            cases e8
            exact ⟨_, _, rfl, by omega, fun i hi => (World.cell?_of_block (a := ⟨w5.heap.size + 1, 0 + i, none⟩) hbk).trans (hc9 i hi)⟩
          have SN2 : Hid (∀ w6, ((w5.alloc (.cells #[.int .i64 n0] 3)).alloc (.cells #[] 3)).grownBy w6 (some (w5.heap.size + 1)) → Sl w6.heap.size w6 (.slice (some ⟨w5.heap.size, 0, none⟩) 1 1) [n0]) := fun w6 hg => by
            have hs := (sl_one w5 n0).below (N := w5.heap.size + 1) (w' := (w5.alloc (.cells #[.int .i64 n0] 3)).alloc (.cells #[] 3)) ((Below.refl _ _).alloc (by simp) _)
            have hsz := hg.size
            simp at hsz
            have hbk := hg.block w5.heap.size (by simp; omega) (by simp)
            obtain ⟨a9, c9, e9, h1, h2, h3⟩ := hs
            cases e9
            refine ⟨_, _, rfl, h1, h2, .inr ?_⟩
            obtain ⟨b9, o9, e8, hb9, hc9⟩ := h3.resolve_left (by simp)
            cases e8
            exact ⟨_, _, rfl, by omega, fun i hi => (World.cell?_of_block (a := ⟨w5.heap.size, 0 + i, none⟩) hbk).trans (hc9 i hi)⟩
          have OWN1 : Hid (Ow w5.heap.size ((w5.alloc (.cells #[.int .i64 n0] 3)).alloc (.cells #[] 3)) (.slice (some ⟨w5.heap.size + 1, 0, none⟩) 0 0) []) := by
            have h := (own0 (w5.alloc (.cells #[.int .i64 n0] 3))).base (N' := w5.heap.size) (by simp)
            have e : (w5.alloc (.cells #[.int .i64 n0] 3)).heap.size = w5.heap.size + 1 := by simp
            rw [e] at h
            exact h
          have HBM : Hid (∀ (w7 : World) (u : Value) (k : Nat) (x : Value), w7.cell? ⟨wp.heap.size, k, none⟩ = some x → (w7.setCell ⟨m, J, none⟩ u).cell? ⟨wp.heap.size, k, none⟩ = some x) := fun w7 u k x hx => (World.cell?_of_block (a := ⟨wp.heap.size, k, none⟩) (Below.heap_setCell _ _ _ _ (fun e => HBNE.out e))).trans hx
          refine wp_region_held_drew (S := fun w' => w'.cell? ⟨wp.heap.size, 1, none⟩ = some (.int .i64 n0) ∧ w'.cell? ⟨wp.heap.size, 2, none⟩ = some (.int .i64 (J : Int))) (by kernel_rfl) ⟨c0, c2⟩ (fun hHeld => ?_)
          refine wpAnyH_take (i := 0) (oi := { dst := some 102, op := .move (.tmp 10), type := 42, pos := "law.go:198", after := #[], guard := none }) (v := ?v0) rfl (by kernel_rfl) (by kernel_rfl) (by kernel_rfl) (fun _ _ _ h => h) (Or.inl ⟨by rfl, ?h0⟩) hHeld ?r0
          case h0 => intro w hSw; (try dsimp only at hSw); go_simp; try with_reducible rfl
          simp only [Act.put, List.setIfInBounds_toArray, List.set_cons_zero, List.set_cons_succ]
          refine wpAnyH_take (i := 1) (oi := { dst := some 103, op := .fieldAddr 28 (.tmp 13) 2, type := 0, pos := "law.go:198", after := #[], guard := none }) (v := ?v1) rfl (by kernel_rfl) (by kernel_rfl) (by kernel_rfl) (fun _ _ _ h => h) (Or.inl ⟨by rfl, ?h1⟩) hHeld ?r1
          case h1 => intro w hSw; (try dsimp only at hSw); go_simp; try with_reducible rfl
          simp only [Act.put, List.setIfInBounds_toArray, List.set_cons_zero, List.set_cons_succ]
          refine wpAnyH_take (i := 2) (oi := { dst := some 104, op := .load 3 (.tmp 103), type := 3, pos := "law.go:198", after := #[{ on := 1, ground := .data }], guard := none }) (v := ?v2) rfl (by kernel_rfl) (by kernel_rfl) (by kernel_rfl) (fun _ _ _ h => h) (Or.inl ⟨by rfl, ?h2⟩) hHeld ?r2
          case h2 => intro w hSw; (try dsimp only at hSw); go_simp; try with_reducible rfl
          simp only [Act.put, List.setIfInBounds_toArray, List.set_cons_zero, List.set_cons_succ]
          refine wpAnyH_take (i := 4) (oi := { dst := some 106, op := .move (.tmp 10), type := 42, pos := "law.go:198", after := #[], guard := none }) (v := ?v4) rfl (by kernel_rfl) (by kernel_rfl) (by kernel_rfl) (fun _ _ _ h => h) (Or.inl ⟨by rfl, ?h4⟩) hHeld ?r4
          case h4 => intro w hSw; (try dsimp only at hSw); go_simp; try with_reducible rfl
          simp only [Act.put, List.setIfInBounds_toArray, List.set_cons_zero, List.set_cons_succ]
          refine wpAnyH_take (i := 5) (oi := { dst := some 107, op := .fieldAddr 28 (.tmp 13) 2, type := 0, pos := "law.go:198", after := #[], guard := none }) (v := ?v5) rfl (by kernel_rfl) (by kernel_rfl) (by kernel_rfl) (fun _ _ _ h => h) (Or.inl ⟨by rfl, ?h5⟩) hHeld ?r5
          case h5 => intro w hSw; (try dsimp only at hSw); go_simp; try with_reducible rfl
          simp only [Act.put, List.setIfInBounds_toArray, List.set_cons_zero, List.set_cons_succ]
          refine wpAnyH_take (i := 6) (oi := { dst := some 108, op := .load 3 (.tmp 107), type := 3, pos := "law.go:198", after := #[{ on := 5, ground := .data }], guard := none }) (v := ?v6) rfl (by kernel_rfl) (by kernel_rfl) (by kernel_rfl) (fun _ _ _ h => h) (Or.inl ⟨by rfl, ?h6⟩) hHeld ?r6
          case h6 => intro w hSw; (try dsimp only at hSw); go_simp; try with_reducible rfl
          simp only [Act.put, List.setIfInBounds_toArray, List.set_cons_zero, List.set_cons_succ]
          refine wpAnyH_take (i := 7) (oi := { dst := some 109, op := .indexAddr 42 (.tmp 106) (.tmp 108), type := 0, pos := "law.go:198", after := #[{ on := 4, ground := .data }, { on := 6, ground := .data }], guard := none }) (v := ?v7) rfl (by kernel_rfl) (by kernel_rfl) (by kernel_rfl) (fun _ _ _ h => h) (Or.inl ⟨by rfl, ?h7⟩) hHeld ?r7
          case h7 => intro w hSw; (try dsimp only at hSw); go_simp; try with_reducible rfl
          simp only [Act.put, List.setIfInBounds_toArray, List.set_cons_zero, List.set_cons_succ]
          refine wpAnyH_take (i := 10) (oi := { dst := some 112, op := .fieldAddr 28 (.tmp 13) 1, type := 0, pos := "law.go:198", after := #[], guard := none }) (v := ?v10) rfl (by kernel_rfl) (by kernel_rfl) (by kernel_rfl) (fun _ _ _ h => h) (Or.inl ⟨by rfl, ?h10⟩) hHeld ?r10
          case h10 => intro w hSw; (try dsimp only at hSw); go_simp; try with_reducible rfl
          simp only [Act.put, List.setIfInBounds_toArray, List.set_cons_zero, List.set_cons_succ]
          refine wpAnyH_take (i := 11) (oi := { dst := some 113, op := .load 3 (.tmp 112), type := 3, pos := "law.go:198", after := #[{ on := 10, ground := .data }], guard := none }) (v := ?v11) rfl (by kernel_rfl) (by kernel_rfl) (by kernel_rfl) (fun _ _ _ h => h) (Or.inl ⟨by rfl, ?h11⟩) hHeld ?r11
          case h11 => intro w hSw; (try dsimp only at hSw); go_simp; try with_reducible rfl
          simp only [Act.put, List.setIfInBounds_toArray, List.set_cons_zero, List.set_cons_succ]
          have hmlt : m < w5.drew.heap.size := HM5.out.mx.inn _ HM5.out.mx.Sm
          refine wpAnyH_firstK (i := 8) (oi := { dst := some 110, op := .load 26 (.tmp 109), type := 26, pos := "law.go:198", after := #[{ on := 7, ground := .data }], guard := none }) (v := .slice aJ (ls J).length cJ) (S₁ := fun w' => w'.heap[m]? = w5.heap[m]? ∧ m < w'.heap.size) rfl (Region.noSelect_spec (by kernel_rfl)) (fun _ _ _ h => h) (fun j => j = 9 ∨ j = 13 ∨ j = 14 ∨ j = 15) ?hD8 _ _ _ _ (Region.free_spec rfl (by kernel_rfl)) ?hk8 ?hl8 (mem_of_contains (by kernel_rfl)) (Or.inl ⟨by rfl, ?hy8⟩) hHeld ⟨rfl, hmlt⟩ ?r8
          case hD8 =>
            rintro j oj hj (rfl | rfl | rfl | rfl)
            · cases hj; exact ⟨{ on := 8, ground := .data }, by simp, rfl, .inl rfl⟩
            · cases hj; exact ⟨{ on := 9, ground := .data }, by simp, rfl, .inr (.inl rfl)⟩
            · cases hj; exact ⟨{ on := 8, ground := .phase }, by simp, rfl, .inl rfl⟩
            · cases hj; exact ⟨{ on := 8, ground := .phase }, by simp, rfl, .inl rfl⟩
          case hl8 => rintro j (rfl | rfl | rfl | rfl) <;> rfl
          case hy8 =>
            rintro w ⟨hSw, hS1, hS2⟩
            have hrw : w.cell? ⟨m, J, none⟩ = some (.slice aJ (ls J).length cJ) := (World.cell?_of_block (a := ⟨m, J, none⟩) hS1).trans r1
            go_simp
            try with_reducible rfl
          case hk8 =>
            intro j oj hj hji hun hnD
            have hlt : j < 16 := (Array.getElem?_eq_some_iff.1 hj).1
            have hcs : j = 0 ∨ j = 1 ∨ j = 2 ∨ j = 3 ∨ j = 4 ∨ j = 5 ∨ j = 6 ∨ j = 7 ∨ j = 10 ∨ j = 11 ∨ j = 12 := by omega
            rcases hcs with rfl | rfl | rfl | rfl | rfl | rfl | rfl | rfl | rfl | rfl | rfl
            case inr.inr.inr.inl => exact keep_alloc hj (fun w o h => ⟨(heap_alloc_old w o h.2).trans h.1, by simp; omega⟩) (fun a w => by cases hj; exact .inl (build0 a w))
            case inr.inr.inr.inr.inr.inr.inr.inr.inr.inr => exact keep_alloc hj (fun w o h => ⟨(heap_alloc_old w o h.2).trans h.1, by simp; omega⟩) (fun a w => by cases hj; exact build1 a w)
            all_goals exact absurd hun (by decide)
          simp only [Act.put, List.setIfInBounds_toArray, List.set_cons_zero, List.set_cons_succ]
          refine wpAnyH_ready (rs := [3, 12]) (by kernel_rfl) (by simp) ?_
          refine AllReadyH.cons (o := { dst := some 105, op := .buildSlice 26 0 #[], type := 26, pos := "law.go:198", after := #[], guard := none }) rfl (fun K hK => ?_) ?_
          · go_simp
            refine hK.out _ _ ⟨a1, a2⟩ (fun hHeld => ?_)
            clear hK
            refine wpAnyH_ready (rs := [9, 12]) (by kernel_rfl) (by simp) ?_
            refine AllReadyH.cons (o := { dst := some 111, op := .call { callee := .builtin .append, args := #[.tmp 105, .tmp 110], argTypes := #[26, 26] }, type := 26, pos := "law.go:198", after := #[{ on := 3, ground := .data }, { on := 8, ground := .data }], guard := none }) rfl (fun K hK => ?_) ?_
            · refine step_append_ow rfl (.tmp 105) (.tmp 110) rfl w5.heap.size w5.heap.size (.slice (some ⟨w5.heap.size, 0, none⟩) 0 0) (.slice aJ (ls J).length cJ) [] (ls J) (by simp [Act.eval]) (own0 w5) (by simp [Act.eval]) SA.out hlen0 (by simp; try omega) ?_
              intro v' w6 q1 q2 q3
              rw [List.nil_append] at q1
              have B6 : Below w5.heap.size w5 w6 := HBA.out.grown ⟨q2.os, q2.tape, q2.output, q2.size, q2.block⟩ (by simp; try omega) (fun k e => by cases e; first | exact Nat.le_refl _ | exact Nat.le_succ _)
              obtain ⟨a6, c6, rfl, -, -⟩ := Ow.shape q1
              obtain ⟨⟨x1, x2, x3, x4⟩, -⟩ := HF.out _ B6
              obtain ⟨⟨y1, y2, y3, y4⟩, -⟩ := HF.out (w6.alloc (.cells #[.int .i64 n0] 3)) (B6.alloc B6.size _)
              have HQ1 : Hid (Ow w5.heap.size w6 (.slice a6 (ls J).length c6) (ls J)) := q1
              have HB6 : Hid (Below w5.heap.size w5 w6) := B6
              clear q1 q2 q3 B6
              refine hK.out _ _ ⟨x1, x2⟩ (fun hHeld => ?_)
              clear hK
              simp only [Act.put, List.setIfInBounds_toArray, List.set_cons_zero, List.set_cons_succ]
              refine wpAnyH_ready (rs := [12]) (by kernel_rfl) (by simp) ?_
              refine AllReadyH.cons (o := { dst := some 114, op := .buildSlice 26 1 #[(0, .tmp 113)], type := 26, pos := "law.go:198", after := #[{ on := 11, ground := .data }], guard := none }) rfl (fun K hK => ?_) ?_
              · go_simp
                refine hK.out _ _ ⟨y1, y2⟩ (fun hHeld => ?_)
                clear hK
                refine wpAnyH_ready (rs := [13]) (by kernel_rfl) (by simp) ?_
                refine AllReadyH.cons (o := { dst := some 115, op := .call { callee := .builtin .append, args := #[.tmp 111, .tmp 114], argTypes := #[26, 26] }, type := 26, pos := "law.go:198", after := #[{ on := 9, ground := .data }, { on := 12, ground := .data }, { on := 9, ground := .chain }], guard := none }) rfl (fun K hK => ?_) ?_
                · refine step_append_ow rfl (.tmp 111) (.tmp 114) rfl w5.heap.size (w6.heap.size + 1) (.slice a6 (ls J).length c6) (.slice (some ⟨w6.heap.size, 0, none⟩) 1 1) (ls J) [n0] (by simp [Act.eval]) (Ow.alloc HQ1.out _) (by simp [Act.eval]) (sl_one w6 n0) hlen1 (by have := HB6.out.size; simp; omega) ?_
                  intro v' w7 q1 q2 q3
                  have B7 : Below w5.heap.size w5 w7 := (HB6.out.alloc HB6.out.size (.cells #[.int .i64 n0] 3)).grown ⟨q2.os, q2.tape, q2.output, q2.size, q2.block⟩ (by have := HB6.out.size; simp; omega) (fun k e => (Ow.lt HQ1.out e).1)
                  obtain ⟨⟨z1, z2, z3, z4⟩, -⟩ := HF.out _ B7
                  obtain ⟨u1, u2⟩ := HEND.out v' w7 q1 B7
                  obtain ⟨a7, c7, rfl, -, -⟩ := Ow.shape q1
                  rw [HLN.out] at u1 u2
                  have HU1 : Hid _ := u1
                  have HU2 : Hid _ := u2
                  clear q1 q2 q3 B7 u1 u2
                  refine hK.out _ _ ⟨z1, z2⟩ (fun hHeld => ?_)
                  clear hK
                  simp only [Act.put, List.setIfInBounds_toArray, List.set_cons_zero, List.set_cons_succ]
                  refine wpAnyH_take (i := 14) (oi := { dst := some 116, op := .indexAddr 42 (.tmp 102) (.tmp 104), type := 0, pos := "law.go:198", after := #[{ on := 0, ground := .data }, { on := 2, ground := .data }, { on := 0, ground := .phase }, { on := 1, ground := .phase }, { on := 2, ground := .phase }, { on := 3, ground := .phase }, { on := 4, ground := .phase }, { on := 5, ground := .phase }, { on := 6, ground := .phase }, { on := 7, ground := .phase }, { on := 8, ground := .phase }, { on := 9, ground := .phase }, { on := 10, ground := .phase }, { on := 11, ground := .phase }, { on := 12, ground := .phase }, { on := 13, ground := .phase }], guard := none }) (v := ?v14a) rfl (by kernel_rfl) (by kernel_rfl) (by kernel_rfl) (fun _ _ _ h => h) (Or.inl ⟨by rfl, ?h14a⟩) hHeld ?r14a
                  case h14a => intro w hSw; (try dsimp only at hSw); go_simp; try with_reducible rfl
                  simp only [Act.put, List.setIfInBounds_toArray, List.set_cons_zero, List.set_cons_succ]
                  refine wpAnyH_ready (rs := [15]) (by kernel_rfl) (by simp) ?_
                  refine AllReadyH.cons (o := { dst := none, op := .store 26 (.tmp 116) (.tmp 115), type := 0, pos := "law.go:198", after := #[{ on := 14, ground := .data }, { on := 13, ground := .data }, { on := 13, ground := .chain }, { on := 0, ground := .phase }, { on := 1, ground := .phase }, { on := 2, ground := .phase }, { on := 3, ground := .phase }, { on := 4, ground := .phase }, { on := 5, ground := .phase }, { on := 6, ground := .phase }, { on := 7, ground := .phase }, { on := 8, ground := .phase }, { on := 9, ground := .phase }, { on := 10, ground := .phase }, { on := 11, ground := .phase }, { on := 12, ground := .phase }, { on := 13, ground := .phase }], guard := none }) rfl (fun K hK => ?_) ?_
                  · go_simp
                    refine hK.out _ _ ⟨HBM.out _ _ _ _ z1, HBM.out _ _ _ _ z2⟩ (fun hHeld => ?_)
                    clear hK
                    refine wpAnyH_done (by kernel_rfl) ?_ _
                    go_wp2
                    exact ⟨⟨i + 1, la, nx, _, _, _, _, rfl, by go_num, by omega, hla, HMOD.out, HM5.out.two HU1.out HU2.out, HB5.out.trans (HU2.out.below HB5.out.size (fun g hg => HM5.out.mx.fr g hg))⟩, by simp [intOf]; omega⟩
                  exact AllReadyH.nil
                exact AllReadyH.nil
              exact AllReadyH.nil
            refine AllReadyH.cons (o := { dst := some 114, op := .buildSlice 26 1 #[(0, .tmp 113)], type := 26, pos := "law.go:198", after := #[{ on := 11, ground := .data }], guard := none }) rfl (fun K hK => ?_) ?_
            · go_simp
              refine hK.out _ _ ⟨a5, a6⟩ (fun hHeld => ?_)
              clear hK
              refine wpAnyH_ready (rs := [9]) (by kernel_rfl) (by simp) ?_
              refine AllReadyH.cons (o := { dst := some 111, op := .call { callee := .builtin .append, args := #[.tmp 105, .tmp 110], argTypes := #[26, 26] }, type := 26, pos := "law.go:198", after := #[{ on := 3, ground := .data }, { on := 8, ground := .data }], guard := none }) rfl (fun K hK => ?_) ?_
              · refine step_append_ow rfl (.tmp 105) (.tmp 110) rfl w5.heap.size w5.heap.size (.slice (some ⟨w5.heap.size, 0, none⟩) 0 0) (.slice aJ (ls J).length cJ) [] (ls J) (by simp [Act.eval]) ((own0 w5).alloc _) (by simp [Act.eval]) SA2.out hlen0 (by simp; try omega) ?_
                intro v' w6 q1 q2 q3
                rw [List.nil_append] at q1
                have B6 : Below w5.heap.size w5 w6 := HBA2.out.grown ⟨q2.os, q2.tape, q2.output, q2.size, q2.block⟩ (by simp; try omega) (fun k e => by cases e; first | exact Nat.le_refl _ | exact Nat.le_succ _)
                have HS14 : Hid (Sl w6.heap.size w6 (.slice (some ⟨w5.heap.size + 1, 0, none⟩) 1 1) [n0]) := SN1.out w6 ⟨q2.os, q2.tape, q2.output, q2.size, q2.block⟩
                obtain ⟨a6, c6, rfl, -, -⟩ := Ow.shape q1
                obtain ⟨⟨x1, x2, x3, x4⟩, -⟩ := HF.out _ B6
                obtain ⟨⟨y1, y2, y3, y4⟩, -⟩ := HF.out (w6.alloc (.cells #[.int .i64 n0] 3)) (B6.alloc B6.size _)
                have HQ1 : Hid (Ow w5.heap.size w6 (.slice a6 (ls J).length c6) (ls J)) := q1
                have HB6 : Hid (Below w5.heap.size w5 w6) := B6
                clear q1 q2 q3 B6
                refine hK.out _ _ ⟨x1, x2⟩ (fun hHeld => ?_)
                clear hK
                simp only [Act.put, List.setIfInBounds_toArray, List.set_cons_zero, List.set_cons_succ]
                refine wpAnyH_ready (rs := [13]) (by kernel_rfl) (by simp) ?_
                refine AllReadyH.cons (o := { dst := some 115, op := .call { callee := .builtin .append, args := #[.tmp 111, .tmp 114], argTypes := #[26, 26] }, type := 26, pos := "law.go:198", after := #[{ on := 9, ground := .data }, { on := 12, ground := .data }, { on := 9, ground := .chain }], guard := none }) rfl (fun K hK => ?_) ?_
                · refine step_append_ow rfl (.tmp 111) (.tmp 114) rfl w5.heap.size w6.heap.size (.slice a6 (ls J).length c6) (.slice (some ⟨w5.heap.size + 1, 0, none⟩) 1 1) (ls J) [n0] (by simp [Act.eval]) HQ1.out (by simp [Act.eval]) HS14.out hlen1 HB6.out.size ?_
                  intro v' w7 q1 q2 q3
                  have B7 : Below w5.heap.size w5 w7 := HB6.out.grown ⟨q2.os, q2.tape, q2.output, q2.size, q2.block⟩ HB6.out.size (fun k e => (Ow.lt HQ1.out e).1)
                  obtain ⟨⟨z1, z2, z3, z4⟩, -⟩ := HF.out _ B7
                  obtain ⟨u1, u2⟩ := HEND.out v' w7 q1 B7
                  obtain ⟨a7, c7, rfl, -, -⟩ := Ow.shape q1
                  rw [HLN.out] at u1 u2
                  have HU1 : Hid _ := u1
                  have HU2 : Hid _ := u2
                  clear q1 q2 q3 B7 u1 u2
                  refine hK.out _ _ ⟨z1, z2⟩ (fun hHeld => ?_)
                  clear hK
                  simp only [Act.put, List.setIfInBounds_toArray, List.set_cons_zero, List.set_cons_succ]
                  refine wpAnyH_take (i := 14) (oi := { dst := some 116, op := .indexAddr 42 (.tmp 102) (.tmp 104), type := 0, pos := "law.go:198", after := #[{ on := 0, ground := .data }, { on := 2, ground := .data }, { on := 0, ground := .phase }, { on := 1, ground := .phase }, { on := 2, ground := .phase }, { on := 3, ground := .phase }, { on := 4, ground := .phase }, { on := 5, ground := .phase }, { on := 6, ground := .phase }, { on := 7, ground := .phase }, { on := 8, ground := .phase }, { on := 9, ground := .phase }, { on := 10, ground := .phase }, { on := 11, ground := .phase }, { on := 12, ground := .phase }, { on := 13, ground := .phase }], guard := none }) (v := ?v14b) rfl (by kernel_rfl) (by kernel_rfl) (by kernel_rfl) (fun _ _ _ h => h) (Or.inl ⟨by rfl, ?h14b⟩) hHeld ?r14b
                  case h14b => intro w hSw; (try dsimp only at hSw); go_simp; try with_reducible rfl
                  simp only [Act.put, List.setIfInBounds_toArray, List.set_cons_zero, List.set_cons_succ]
                  refine wpAnyH_ready (rs := [15]) (by kernel_rfl) (by simp) ?_
                  refine AllReadyH.cons (o := { dst := none, op := .store 26 (.tmp 116) (.tmp 115), type := 0, pos := "law.go:198", after := #[{ on := 14, ground := .data }, { on := 13, ground := .data }, { on := 13, ground := .chain }, { on := 0, ground := .phase }, { on := 1, ground := .phase }, { on := 2, ground := .phase }, { on := 3, ground := .phase }, { on := 4, ground := .phase }, { on := 5, ground := .phase }, { on := 6, ground := .phase }, { on := 7, ground := .phase }, { on := 8, ground := .phase }, { on := 9, ground := .phase }, { on := 10, ground := .phase }, { on := 11, ground := .phase }, { on := 12, ground := .phase }, { on := 13, ground := .phase }], guard := none }) rfl (fun K hK => ?_) ?_
                  · go_simp
                    refine hK.out _ _ ⟨HBM.out _ _ _ _ z1, HBM.out _ _ _ _ z2⟩ (fun hHeld => ?_)
                    clear hK
                    refine wpAnyH_done (by kernel_rfl) ?_ _
                    go_wp2
                    exact ⟨⟨i + 1, la, nx, _, _, _, _, rfl, by go_num, by omega, hla, HMOD.out, HM5.out.two HU1.out HU2.out, HB5.out.trans (HU2.out.below HB5.out.size (fun g hg => HM5.out.mx.fr g hg))⟩, by simp [intOf]; omega⟩
                  exact AllReadyH.nil
                exact AllReadyH.nil
              exact AllReadyH.nil
            exact AllReadyH.nil
          refine AllReadyH.cons (o := { dst := some 114, op := .buildSlice 26 1 #[(0, .tmp 113)], type := 26, pos := "law.go:198", after := #[{ on := 11, ground := .data }], guard := none }) rfl (fun K hK => ?_) ?_
          · go_simp
            refine hK.out _ _ ⟨b1, b2⟩ (fun hHeld => ?_)
            clear hK
            refine wpAnyH_ready (rs := [3]) (by kernel_rfl) (by simp) ?_
            refine AllReadyH.cons (o := { dst := some 105, op := .buildSlice 26 0 #[], type := 26, pos := "law.go:198", after := #[], guard := none }) rfl (fun K hK => ?_) ?_
            · go_simp
              refine hK.out _ _ ⟨b5, b6⟩ (fun hHeld => ?_)
              clear hK
              refine wpAnyH_ready (rs := [9]) (by kernel_rfl) (by simp) ?_
              refine AllReadyH.cons (o := { dst := some 111, op := .call { callee := .builtin .append, args := #[.tmp 105, .tmp 110], argTypes := #[26, 26] }, type := 26, pos := "law.go:198", after := #[{ on := 3, ground := .data }, { on := 8, ground := .data }], guard := none }) rfl (fun K hK => ?_) ?_
              · refine step_append_ow rfl (.tmp 105) (.tmp 110) rfl w5.heap.size w5.heap.size (.slice (some ⟨w5.heap.size + 1, 0, none⟩) 0 0) (.slice aJ (ls J).length cJ) [] (ls J) (by simp [Act.eval]) OWN1.out (by simp [Act.eval]) SB2.out hlen0 (by simp; try omega) ?_
                intro v' w6 q1 q2 q3
                rw [List.nil_append] at q1
                have B6 : Below w5.heap.size w5 w6 := HBB2.out.grown ⟨q2.os, q2.tape, q2.output, q2.size, q2.block⟩ (by simp; try omega) (fun k e => by cases e; first | exact Nat.le_refl _ | exact Nat.le_succ _)
                have HS15 : Hid (Sl w6.heap.size w6 (.slice (some ⟨w5.heap.size, 0, none⟩) 1 1) [n0]) := SN2.out w6 ⟨q2.os, q2.tape, q2.output, q2.size, q2.block⟩
                obtain ⟨a6, c6, rfl, -, -⟩ := Ow.shape q1
                obtain ⟨⟨x1, x2, x3, x4⟩, -⟩ := HF.out _ B6
                obtain ⟨⟨y1, y2, y3, y4⟩, -⟩ := HF.out (w6.alloc (.cells #[.int .i64 n0] 3)) (B6.alloc B6.size _)
                have HQ1 : Hid (Ow w5.heap.size w6 (.slice a6 (ls J).length c6) (ls J)) := q1
                have HB6 : Hid (Below w5.heap.size w5 w6) := B6
                clear q1 q2 q3 B6
                refine hK.out _ _ ⟨x1, x2⟩ (fun hHeld => ?_)
                clear hK
                simp only [Act.put, List.setIfInBounds_toArray, List.set_cons_zero, List.set_cons_succ]
                refine wpAnyH_ready (rs := [13]) (by kernel_rfl) (by simp) ?_
                refine AllReadyH.cons (o := { dst := some 115, op := .call { callee := .builtin .append, args := #[.tmp 111, .tmp 114], argTypes := #[26, 26] }, type := 26, pos := "law.go:198", after := #[{ on := 9, ground := .data }, { on := 12, ground := .data }, { on := 9, ground := .chain }], guard := none }) rfl (fun K hK => ?_) ?_
                · refine step_append_ow rfl (.tmp 111) (.tmp 114) rfl w5.heap.size w6.heap.size (.slice a6 (ls J).length c6) (.slice (some ⟨w5.heap.size, 0, none⟩) 1 1) (ls J) [n0] (by simp [Act.eval]) HQ1.out (by simp [Act.eval]) HS15.out hlen1 HB6.out.size ?_
                  intro v' w7 q1 q2 q3
                  have B7 : Below w5.heap.size w5 w7 := HB6.out.grown ⟨q2.os, q2.tape, q2.output, q2.size, q2.block⟩ HB6.out.size (fun k e => (Ow.lt HQ1.out e).1)
                  obtain ⟨⟨z1, z2, z3, z4⟩, -⟩ := HF.out _ B7
                  obtain ⟨u1, u2⟩ := HEND.out v' w7 q1 B7
                  obtain ⟨a7, c7, rfl, -, -⟩ := Ow.shape q1
                  rw [HLN.out] at u1 u2
                  have HU1 : Hid _ := u1
                  have HU2 : Hid _ := u2
                  clear q1 q2 q3 B7 u1 u2
                  refine hK.out _ _ ⟨z1, z2⟩ (fun hHeld => ?_)
                  clear hK
                  simp only [Act.put, List.setIfInBounds_toArray, List.set_cons_zero, List.set_cons_succ]
                  refine wpAnyH_take (i := 14) (oi := { dst := some 116, op := .indexAddr 42 (.tmp 102) (.tmp 104), type := 0, pos := "law.go:198", after := #[{ on := 0, ground := .data }, { on := 2, ground := .data }, { on := 0, ground := .phase }, { on := 1, ground := .phase }, { on := 2, ground := .phase }, { on := 3, ground := .phase }, { on := 4, ground := .phase }, { on := 5, ground := .phase }, { on := 6, ground := .phase }, { on := 7, ground := .phase }, { on := 8, ground := .phase }, { on := 9, ground := .phase }, { on := 10, ground := .phase }, { on := 11, ground := .phase }, { on := 12, ground := .phase }, { on := 13, ground := .phase }], guard := none }) (v := ?v14c) rfl (by kernel_rfl) (by kernel_rfl) (by kernel_rfl) (fun _ _ _ h => h) (Or.inl ⟨by rfl, ?h14c⟩) hHeld ?r14c
                  case h14c => intro w hSw; (try dsimp only at hSw); go_simp; try with_reducible rfl
                  simp only [Act.put, List.setIfInBounds_toArray, List.set_cons_zero, List.set_cons_succ]
                  refine wpAnyH_ready (rs := [15]) (by kernel_rfl) (by simp) ?_
                  refine AllReadyH.cons (o := { dst := none, op := .store 26 (.tmp 116) (.tmp 115), type := 0, pos := "law.go:198", after := #[{ on := 14, ground := .data }, { on := 13, ground := .data }, { on := 13, ground := .chain }, { on := 0, ground := .phase }, { on := 1, ground := .phase }, { on := 2, ground := .phase }, { on := 3, ground := .phase }, { on := 4, ground := .phase }, { on := 5, ground := .phase }, { on := 6, ground := .phase }, { on := 7, ground := .phase }, { on := 8, ground := .phase }, { on := 9, ground := .phase }, { on := 10, ground := .phase }, { on := 11, ground := .phase }, { on := 12, ground := .phase }, { on := 13, ground := .phase }], guard := none }) rfl (fun K hK => ?_) ?_
                  · go_simp
                    refine hK.out _ _ ⟨HBM.out _ _ _ _ z1, HBM.out _ _ _ _ z2⟩ (fun hHeld => ?_)
                    clear hK
                    refine wpAnyH_done (by kernel_rfl) ?_ _
                    go_wp2
                    exact ⟨⟨i + 1, la, nx, _, _, _, _, rfl, by go_num, by omega, hla, HMOD.out, HM5.out.two HU1.out HU2.out, HB5.out.trans (HU2.out.below HB5.out.size (fun g hg => HM5.out.mx.fr g hg))⟩, by simp [intOf]; omega⟩
                  exact AllReadyH.nil
                exact AllReadyH.nil
              exact AllReadyH.nil
            exact AllReadyH.nil
          exact AllReadyH.nil
        · have hd : decide ((ls J).length < R) = false := by simpa using hlt
          have hpl : putL R (ls J) n0 = ls J := if_neg hlt
          rw [hd, hpl, upd_same] at hpt
          have hge : R ≤ (ls J).length := by omega
          clear hd hpl hlt
          go_wp2_with fail
          refine hpt.mono ?_
          rintro e w5 ⟨rfl, t5⟩
          have HM5 : Hid _ := HM4.out.one t5
          have HB5 : Hid (Below w.heap.size w w5) := HB4.out.trans (t5.bel HB4.out.size)
          clear t5 hpt e0 e1 e2 m1 m2 HM4 HB4 HM0 HB0 HBA HAL
          go_wp2
          exact ⟨⟨i + 1, la, nx, _, _, _, _, rfl, by go_num, by omega, hla, HMOD.out, HM5.out, HB5.out⟩, by simp [intOf]; omega⟩
      · have hpt := lput_none HM4.out.la ln0 hrange n0
        by_cases hneg : 0 ≤ ln0
        · have hge : decide (ln0 < (n : Int)) = false := by simp; omega
          clear hrange
          go_wp2_with fail
          refine hpt.mono ?_
          rintro e wx ⟨rfl, hwx⟩
          subst wx
          go_wp2
          exact ⟨⟨i + 1, la, nx, _, _, _, _, rfl, by go_num, by omega, hla, HMOD.out, HM4.out, HB4.out⟩, by simp [intOf]; omega⟩
        · have hneg' : decide (0 ≤ ln0) = false := by simp; omega
          clear hrange hneg
          go_wp2_with fail
          refine hpt.mono ?_
          rintro e wx ⟨rfl, hwx⟩
          subst wx
          go_wp2
          exact ⟨⟨i + 1, la, nx, _, _, _, _, rfl, by go_num, by omega, hla, HMOD.out, HM4.out, HB4.out⟩, by simp [intOf]; omega⟩
    · have hkd1 : (kd0 == 0) = false := by simpa using hkd
      clear hkd
      have HC3 : Hid (∀ i', i' < n → ∃ aJ cJ, (wp.alloc (.cells #[.int .i64 kd0, .int .i64 n0, .int .i64 ln0] 28)).cell? ⟨m, i', none⟩ = some (.slice aJ (ls i').length cJ)) := fun i' hi' => by
        obtain ⟨aJ, cJ, hvJ, -⟩ := HM4.out.mx.row hi'
        obtain ⟨m1, -⟩ := HM4.out.mx.cell hi'
        rw [hvJ] at m1
        exact ⟨aJ, cJ, m1⟩
      go_wp2
      generalize hw3 : wp.alloc (.cells #[.int .i64 kd0, .int .i64 n0, .int .i64 ln0] 28) = w3 at *
      go_loopw [15, 16] (fun tv kv wr => wr = w3 ∧ ∃ k : Nat, kv = .int .i64 (k : Int) ∧ 1 ≤ k ∧ ((tv = .int .i64 (-1) ∧ k ≤ n + 1 ∧ ∀ j, j + 1 < k → ls ((nx + j) % n) = []) ∨ ∃ mm : Nat, k = mm + 2 ∧ mm < n ∧ tv = .int .i64 (((nx + mm) % n : Nat) : Int) ∧ (∀ j, j < mm → ls ((nx + j) % n) = []) ∧ ls ((nx + mm) % n) ≠ [])) (fun _ kv _ => n + 2 - (intOf kv).toNat)
      case atStart => exact ⟨by first | rfl | exact hw3, 1, rfl, Nat.le_refl _, .inl ⟨rfl, by omega, fun j hj => by omega⟩⟩
      case round =>
        obtain ⟨rfl, k, rfl, hk1, hcase⟩ := hrel
        rcases hcase with ⟨rfl, hkn, hemp⟩ | ⟨mm, rfl, hmm, rfl, hemp, hne⟩
        · have HEM : Hid (∀ j, j + 1 < k → ls ((nx + j) % n) = []) := hemp
          clear hemp
          by_cases hkle : k ≤ n
          · have hkle' : (k : Int) ≤ (n : Int) := by omega
            obtain ⟨J, HJ⟩ : ∃ J, Hid ((la + k) % n = J) := ⟨_, rfl⟩
            have hJ : J < n := by rw [← HJ.out]; exact Nat.mod_lt _ (by omega)
            have HJ2 : Hid ((nx + (k - 1)) % n = J) := by show _ = _; rw [← next_mod HMOD.out hk1]; exact HJ.out
            have hw1 : IntKind.i64.wrap ((la : Int) + (k : Int)) = (la : Int) + (k : Int) := by rw [IntKind.wrap_i64]; omega
            have hw2 : ((la : Int) + (k : Int)).tmod (n : Int) = (J : Int) := by
              rw [← HJ.out]
              have := Int.ofNat_tmod (la + k) n
              simpa using this.symm
            have hnz : ((n : Int) == 0) = false := by simp; omega
            have hJn : (J : Int) < (n : Int) := by omega
            obtain ⟨aJ, cJ, mJ⟩ := HC3.out J hJ
            by_cases hz : (ls J).length = 0
            · have HZ : Hid (ls J = []) := List.length_eq_zero_iff.1 hz
              have HEM2 : Hid (∀ j, j + 1 < k + 1 → ls ((nx + j) % n) = []) := fun j hj => by
                by_cases e : j + 1 = k
                · rw [show j = k - 1 from by omega, HJ2.out]; exact HZ.out
                · exact HEM.out j (by omega)
              rw [hz] at mJ
              clear hz
              go_wp2
              exact ⟨⟨by trivial, k + 1, by go_num, by omega, .inl ⟨rfl, by omega, HEM2.out⟩⟩, by simp [intOf]; omega⟩
            · have HNE : Hid (ls ((nx + (k - 1)) % n) ≠ []) := by
                show _ ≠ _
                rw [HJ2.out]
                intro e
                exact hz (by rw [e]; rfl)
              have hpos : 0 < (ls J).length := by omega
              generalize (ls J).length = LJ at *
              go_wp2
              exact ⟨⟨by trivial, k + 1, by go_num, by omega, .inr ⟨k - 1, by omega, by omega, by rw [HJ2.out], fun j hj => HEM.out j (by omega), HNE.out⟩⟩, by simp [intOf]; omega⟩
          · have hkle' : decide ((k : Int) ≤ (n : Int)) = false := by simp; omega
            have hall : ∀ j, j < n → ls j = [] := by
              apply Classical.byContradiction
              intro hno
              obtain ⟨mm, h1, -, h3⟩ := pick_some HNUM.out.1.2.2 hno
              exact h3 (HEM.out mm (by omega))
            have htk := ltake_none HM4.out.la HB4.out.size hall
            go_wp2_with fail
            refine htk.mono ?_
            rintro e w4 ⟨rfl, t4⟩
            have HM5 : Hid _ := HM4.out.one t4
            have HB5 : Hid (Below w.heap.size w w4) := HB4.out.trans (t4.bel HB4.out.size)
            clear t4 htk
            go_wp2
            exact ⟨⟨i + 1, la, nx, _, _, _, _, rfl, by go_num, by omega, hla, HMOD.out, HM5.out, HB5.out⟩, by simp [intOf]; omega⟩
        · obtain ⟨J, HJ⟩ : ∃ J, Hid ((nx + mm) % n = J) := ⟨_, rfl⟩
          have hJ : J < n := by rw [← HJ.out]; exact Nat.mod_lt _ (by omega)
          rw [HJ.out] at hne
          obtain ⟨x, t, hxt⟩ : ∃ x t, ls J = x :: t := by
            cases h : ls J with
            | nil => exact absurd h hne
            | cons x t => exact ⟨x, t, rfl⟩
          have htk := ltake_any HM4.out.la HB4.out.size mm hmm hemp x t (by rw [HJ.out]; exact hxt)
          rw [HJ.out] at htk ⊢
          by_cases hk2 : mm + 2 ≤ n
          · have hk2' : ((mm + 2 : Nat) : Int) ≤ (n : Int) := by omega
            clear hemp hne hmm
            go_wp2_with fail
            refine htk.mono ?_
            rintro e w4 ⟨rfl, t4⟩
            have HM5 : Hid (LM w.heap.size (grew S wr w4) S' w4 d m n R (J + 1) vs (upd ls J t) ls) := HM4.out.one t4
            have HB5 : Hid (Below w.heap.size w w4) := HB4.out.trans (t4.bel HB4.out.size)
            clear t4 htk
            obtain ⟨aJ, cJ, hvJ, hwJ⟩ := HM5.out.mx.row hJ
            obtain ⟨m1, m2⟩ := HM5.out.mx.cell hJ
            rw [hvJ] at m1
            obtain ⟨hmx5, hO5⟩ := HM5.out.mx.cutS HB5.out.size hJ hvJ 1 (by rw [hxt]; simp)
            obtain ⟨a2, c2, hv2, hlc, hcm, hcc⟩ := hwJ.sl (Nat.le_refl _)
            cases hv2
            obtain ⟨g, off, rfl, -, hcell⟩ := hcc.resolve_left (by rw [hxt]; simp)
            have k0 := hcell 0 (by rw [hxt]; simp)
            rw [hxt] at k0
            simp only [Nat.add_zero, List.getElem?_cons_zero, Option.getD_some] at k0
            have hd1 : (ls J).drop 1 = t := by rw [hxt]; rfl
            have hlen5 : (ls J).length = t.length + 1 := by rw [hxt]; simp
            rw [hd1] at hmx5
            have hMX5 : Hid _ := hmx5
            have HO5 : Hid _ := hO5
            have hJn : (J : Int) < (n : Int) := by omega
            have hl1 : 1 ≤ (ls J).length := by omega
            have hl0 : 0 < (ls J).length := by omega
            unfold cutV at hMX5 HO5
            simp only at hMX5 HO5
            have hcM : cJ ≤ 9223372036854775807 := by unfold maxLen at hcm; omega
            clear hmx5 hO5 hwJ hcc hcell hvJ hd1 hlen5 hcm
            generalize hLJ : (ls J).length = LJ at *
            generalize hac : (if cJ = 1 then some (⟨g, off, none⟩ : Addr) else some ⟨g, off + 1, none⟩) = a5 at *
            have HFIN : Hid (LM w.heap.size (grew S wr w4) (grew S' w4 (w4.setCell ⟨m, J, none⟩ (.slice a5 (LJ - 1) (cJ - 1)))) (w4.setCell ⟨m, J, none⟩ (.slice a5 (LJ - 1) (cJ - 1))) d m n R (J + 1) (upd vs J (.slice a5 (LJ - 1) (cJ - 1))) (upd ls J t) (upd ls J t) ∧ Below w.heap.size w (w4.setCell ⟨m, J, none⟩ (.slice a5 (LJ - 1) (cJ - 1)))) :=
              ⟨HM5.out.two hMX5.out HO5.out, HB5.out.trans (HO5.out.below HB5.out.size (fun g hg => HM5.out.mx.fr g hg))⟩
            have HJ1 : Hid ((J + 1) % n = (J + 1) % n) := rfl
            clear hLJ hMX5 HO5 HM5 HB5 HM4 HB4 hxt
            go_wp2
            exact ⟨⟨i + 1, J, J + 1, _, _, _, _, rfl, by go_num, by omega, hJ, rfl, HFIN.out.1, HFIN.out.2⟩, by simp [intOf]; omega⟩
          · have hk2' : decide (((mm + 2 : Nat) : Int) ≤ (n : Int)) = false := by simp; omega
            clear hemp hne hmm
            go_wp2_with fail
            refine htk.mono ?_
            rintro e w4 ⟨rfl, t4⟩
            have HM5 : Hid (LM w.heap.size (grew S wr w4) S' w4 d m n R (J + 1) vs (upd ls J t) ls) := HM4.out.one t4
            have HB5 : Hid (Below w.heap.size w w4) := HB4.out.trans (t4.bel HB4.out.size)
            clear t4 htk
            obtain ⟨aJ, cJ, hvJ, hwJ⟩ := HM5.out.mx.row hJ
            obtain ⟨m1, m2⟩ := HM5.out.mx.cell hJ
            rw [hvJ] at m1
            obtain ⟨hmx5, hO5⟩ := HM5.out.mx.cutS HB5.out.size hJ hvJ 1 (by rw [hxt]; simp)
            obtain ⟨a2, c2, hv2, hlc, hcm, hcc⟩ := hwJ.sl (Nat.le_refl _)
            cases hv2
            obtain ⟨g, off, rfl, -, hcell⟩ := hcc.resolve_left (by rw [hxt]; simp)
            have k0 := hcell 0 (by rw [hxt]; simp)
            rw [hxt] at k0
            simp only [Nat.add_zero, List.getElem?_cons_zero, Option.getD_some] at k0
            have hd1 : (ls J).drop 1 = t := by rw [hxt]; rfl
            have hlen5 : (ls J).length = t.length + 1 := by rw [hxt]; simp
            rw [hd1] at hmx5
            have hMX5 : Hid _ := hmx5
            have HO5 : Hid _ := hO5
            have hJn : (J : Int) < (n : Int) := by omega
            have hl1 : 1 ≤ (ls J).length := by omega
            have hl0 : 0 < (ls J).length := by omega
            unfold cutV at hMX5 HO5
            simp only at hMX5 HO5
            have hcM : cJ ≤ 9223372036854775807 := by unfold maxLen at hcm; omega
            clear hmx5 hO5 hwJ hcc hcell hvJ hd1 hlen5 hcm
            generalize hLJ : (ls J).length = LJ at *
            generalize hac : (if cJ = 1 then some (⟨g, off, none⟩ : Addr) else some ⟨g, off + 1, none⟩) = a5 at *
            have HFIN : Hid (LM w.heap.size (grew S wr w4) (grew S' w4 (w4.setCell ⟨m, J, none⟩ (.slice a5 (LJ - 1) (cJ - 1)))) (w4.setCell ⟨m, J, none⟩ (.slice a5 (LJ - 1) (cJ - 1))) d m n R (J + 1) (upd vs J (.slice a5 (LJ - 1) (cJ - 1))) (upd ls J t) (upd ls J t) ∧ Below w.heap.size w (w4.setCell ⟨m, J, none⟩ (.slice a5 (LJ - 1) (cJ - 1)))) :=
              ⟨HM5.out.two hMX5.out HO5.out, HB5.out.trans (HO5.out.below HB5.out.size (fun g hg => HM5.out.mx.fr g hg))⟩
            have HJ1 : Hid ((J + 1) % n = (J + 1) % n) := rfl
            clear hLJ hMX5 HO5 HM5 HB5 HM4 HB4 hxt
            go_wp2
            exact ⟨⟨i + 1, J, J + 1, _, _, _, _, rfl, by go_num, by omega, hJ, rfl, HFIN.out.1, HFIN.out.2⟩, by simp [intOf]; omega⟩

end Go.Proofs.Ythaoobfldponpaa
