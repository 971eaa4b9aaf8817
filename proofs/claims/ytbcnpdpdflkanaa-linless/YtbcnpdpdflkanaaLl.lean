/-
  LinLess.
-/
import Derived.Test.YtbcnpdpdflkanaaLe
import Derived.Test.YtbcnpdpdflkanaaCq
import Derived.Deep.DeepCutAuto
import Derived.Deep.CutBlock
namespace Go.Proofs.Ytbcnpdpdflkanaa
open Go.RowKit

/-- A box, and nothing that was there turned. -/
structure Lb (w : World) (b : Nat) (o : Obj) (W : World) : Prop where
  blk : W.heap[b]? = some o
  bel : Below w.heap.size w W
theorem Lb.lt {w W : World} {b : Nat} {o : Obj} (h : Lb w b o W) : b < W.heap.size := (Array.getElem?_eq_some_iff.1 h.blk).1
theorem Lb.go {w W W' : World} {b : Nat} {o : Obj} (h : Lb w b o W) (hB : Below W.heap.size W W') : Lb w b o W' := ⟨(hB.block _ h.lt).trans h.blk, h.bel.trans (hB.mono h.bel.size)⟩
theorem Lb.drew {n : Nat} {w W : World} {b : Nat} {o : Obj} (h : Lb w b o W) : Lb w b o (W.drewN n) := ⟨h.blk, ⟨h.bel.os, h.bel.tape, h.bel.output, h.bel.size, h.bel.block⟩⟩
theorem Lb.push {M : Nat} {w W W' : World} {b : Nat} {o : Obj} (h : Lb w b o W) (hB : Below M W W') (hM : b < M) (hN : w.heap.size ≤ M) : Lb w b o W' := ⟨(hB.block _ hM).trans h.blk, h.bel.trans (hB.mono hN)⟩
/-- Two boxes. -/
structure Lc (w : World) (om : Obj) (xb : Nat) (ox : Obj) (W : World) : Prop where
  m : W.heap[w.heap.size]? = some om
  x : W.heap[xb]? = some ox
  gt : w.heap.size < xb
  bel : Below w.heap.size w W
theorem Lc.lt {w W : World} {om ox : Obj} {xb : Nat} (h : Lc w om xb ox W) : xb < W.heap.size := (Array.getElem?_eq_some_iff.1 h.x).1
theorem Lc.go {w W W' : World} {om ox : Obj} {xb : Nat} (h : Lc w om xb ox W) (hB : Below W.heap.size W W') : Lc w om xb ox W' :=
  ⟨(hB.block _ (by have := h.lt; have := h.gt; omega)).trans h.m, (hB.block _ h.lt).trans h.x, h.gt, h.bel.trans (hB.mono h.bel.size)⟩
theorem Lc.out {w W W' : World} {om ox : Obj} {xb g : Nat} (h : Lc w om xb ox W) (hO : Out (fun i => i = g) W W') (hg : xb < g) : Lc w om xb ox W' :=
  ⟨(hO.block _ (by have := h.lt; have := h.gt; omega) (by have := h.gt; omega)).trans h.m, (hO.block _ h.lt (by omega)).trans h.x, h.gt, h.bel.trans (hO.below (N := w.heap.size) h.bel.size (fun i hi => by have := h.gt; omega))⟩
theorem mem_take_succ {l : List Nat} {k q : Nat} (hk : k < l.length) : decide (q ∈ l.take (k + 1)) = (decide (q ∈ l.take k) || decide (l.getD k 0 = q)) := by
  rw [List.take_add_one, List.getElem?_eq_getElem hk, List.getD_eq_getElem?_getD, List.getElem?_eq_getElem hk, Bool.eq_iff_iff]
  simp only [Option.toList_some, List.mem_append, List.mem_singleton, Bool.or_eq_true, decide_eq_true_eq, Option.getD_some]
  exact or_congr_right eq_comm
theorem OOw.turn {N : Nat} {W : World} {g c : Nat} {l : List Lo} (h : OOw N W (.slice (some ⟨g, 0, none⟩) l.length c) l) {i r : Nat} (hi : i < l.length) (hr : r < 10) (y : Lo) (u : Value) (hy : y.cells.toList = (oat l i).cells.toList.set r u) :
    OOw N (W.setCell ⟨g, i * 10 + r, none⟩ u) (.slice (some ⟨g, 0, none⟩) (l.set i y).length c) (l.set i y) := by
  have h1 := row_store h (i * 10 + r) u
  have h2 := opC_set l i r hi y u hr hy
  unfold opC at h2
  rw [h2] at h1
  unfold OOw
  rw [List.length_set]
  exact h1
theorem oat_set {l : List Lo} {i : Nat} (hi : i < l.length) (y : Lo) : oat (l.set i y) i = y := by unfold oat; simp [hi]
theorem OOw.opened {N : Nat} {W : World} {g c : Nat} {l : List Lo} (h : OOw N W (.slice (some ⟨g, 0, none⟩) l.length c) l) {i : Nat} (hi : i < l.length) :
    OOw N (((W.setCell ⟨g, i * 10 + 7, none⟩ (.int .i64 0)).setCell ⟨g, i * 10 + 8, none⟩ (.int .i64 0)).setCell ⟨g, i * 10 + 9, none⟩ (.string ⟨#[]⟩)) (.slice (some ⟨g, 0, none⟩) (l.set i (Go.Proofs.Ytbcnpdpdflkanaa.opened (oat l i))).length c) (l.set i (Go.Proofs.Ytbcnpdpdflkanaa.opened (oat l i))) := by
  have h1 := h.turn hi (r := 7) (by omega) { oat l i with back := 0 } (.int .i64 0) rfl
  have h2 := h1.turn (i := i) (r := 8) (by simpa using hi) (by omega) { oat l i with back := 0, rp := ⟨0, (oat l i).rp.val⟩ } (.int .i64 0) (by rw [oat_set hi]; rfl)
  have h3 := h2.turn (i := i) (r := 9) (by simpa using hi) (by omega) (Go.Proofs.Ytbcnpdpdflkanaa.opened (oat l i)) (.string ⟨#[]⟩) (by rw [oat_set (by simpa using hi)]; rfl)
  rw [List.set_set, List.set_set] at h3
  exact h3
theorem g_of {W8 : World} {g9 n c : Nat} {o : Obj} (p3 : (Value.slice (some ⟨g9, 0, none⟩) n c).ownBlock = (Value.slice (some ⟨W8.heap.size, 0, none⟩) 0 0).ownBlock ∨ (Value.slice (some ⟨g9, 0, none⟩) n c).ownBlock = some (W8.alloc o).heap.size) : W8.heap.size ≤ g9 := by
  rcases p3 with e | e
  · have e' : (some g9 : Option Nat) = some W8.heap.size := e
    injection e' with e2
    omega
  · have e' : (some g9 : Option Nat) = some (W8.alloc o).heap.size := e
    injection e' with e2
    simp at e2
    omega
theorem sound_pos {x : Lo} (hs : sound x = 0) (hb : x.back ≠ 0) : 1 ≤ x.back := by
  unfold sound at hs
  split at hs
  · cases hs
  split at hs
  · cases hs
  rename_i h2
  try rw [if_neg hb] at hs
  split at hs
  · cases hs
  rename_i h3
  omega
theorem news_kept {w' w5 : World} {row : Option Nat} {cs : Array Value} {τ : TypeId} {n : Nat} (hw : w'.heap[n]? = some (.cells cs τ)) (hg : w'.grownBy w5 row) (hr : row ≠ some n) : ∀ j u, cs.toList[j]? = some u → w5.cell? ((⟨n, 0, none⟩ : Addr).add j) = some u := by
  intro j u hj
  have hb : w5.heap[n]? = some (.cells cs τ) := (hg.block n (Array.getElem?_eq_some_iff.1 hw).1 (fun e => hr e.symm)).trans hw
  rw [Addr.add_lit]
  simp only [World.cell?, hb, Nat.zero_add]
  simpa using hj
theorem heap_two (w : World) (o o' : Obj) : ((w.alloc o).alloc o').heap[w.heap.size]? = some o ∧ ((w.alloc o).alloc o').heap[w.heap.size + 1]? = some o' := by
  constructor
  · rw [Below.heap_alloc _ _ _ (by simp)]; exact heap_alloc_new _ _
  · have := heap_alloc_new (w.alloc o) o'; simpa using this
/-- A place of a list. -/
theorem which_of (wh : Int) (n : Nat) (hn : 0 < n) (hn2 : n ≤ 1000000) : ∃ q : Nat, q < n ∧ Int.tmod (wrap64 (Int.tmod wh (n : Int) + (n : Int))) (n : Int) = (q : Int) := by
  have h1 := Int.lt_tmod_of_pos wh (b := (n : Int)) (by omega)
  have h2 := Int.tmod_lt_of_pos wh (b := (n : Int)) (by omega)
  have h3 := Int.tmod_nonneg (b := (n : Int)) (a := Int.tmod wh (n : Int) + (n : Int)) (by omega)
  have h4 := Int.tmod_lt_of_pos (Int.tmod wh (n : Int) + (n : Int)) (b := (n : Int)) (by omega)
  obtain ⟨q, hq⟩ := Int.eq_ofNat_of_zero_le h3
  refine ⟨q, by omega, ?_⟩
  rw [IntWalk.wrap64_in _ ⟨by omega, by omega⟩]
  exact hq

set_option maxRecDepth 100000 in
set_option maxHeartbeats 8000000 in
theorem less_walk (w : World) (a : Option Addr) (cap : Nat) (h : List Lo) (hA : HAt w.heap.size w a h) (hin : ∀ o ∈ h, InO o) (hl : h.length ≤ maxLen) (_hc1 : h.length ≤ cap) (_hc2 : cap ≤ maxLen)
    (wh : Int) (more : Lo) (hmore : InO more) (lt : Int) :
    Calls Try.prog 7 #[.slice a h.length cap, .int .i64 wh, more.v, .int .i64 lt] w fun e w' => e = .returned (.bool true) ∧ Below w.heap.size w w' := by
  have HF := first_any
  have hok : ∀ o ∈ h, LoOk o := fun o ho => (hin o ho).ok
  have HOK : Hid (∀ o ∈ h, LoOk o) := hok
  have HFW : Hid (∀ w1, Below w.heap.size w w1 → Calls Try.prog 10 #[.slice a h.length cap] w1 (FewR h w1)) := fun w1 hB => few_any w.heap.size w1 a cap h (hA.below hB) hok hl
  have HCK : Hid (∀ w1, Below w.heap.size w w1 → Calls Try.prog 12 #[.slice a h.length cap] w1 fun e w' => e = .returned (.tuple #[.bool (checkE h), .int .i64 (valid h)]) ∧ Below w1.heap.size w1 w') := fun w1 hB => check_any w.heap.size w1 a cap h hB.size (hA.below hB) hok hl
  have HEX : Hid (∀ w1 key, Below w.heap.size w w1 → Calls Try.prog 21 #[.slice a h.length cap, str key] w1 fun e w' => ∃ v, e = .returned (.tuple #[v, .bool (explE h key).isSome, .int .i64 (valid h)]) ∧ IOw w1.heap.size w' v ((explE h key).getD []) ∧ Below w1.heap.size w1 w') := fun w1 key hB => Explain_any w.heap.size w1 a cap h key hB.size (hA.below hB) hok hl
  have hl' := hl
  unfold maxLen at hl'
  have HN := num_any
  have hbm : (w.alloc more.box).heap[w.heap.size]? = some more.box := heap_alloc_new w _
  have HB0 : Hid (Lb w w.heap.size more.box (w.alloc more.box)) := ⟨hbm, (Below.refl _ w).alloc (Nat.le_refl _) _⟩
  have HMO : Hid (InO more) := hmore
  clear hmore hbm hin
  obtain ⟨mcl, msq, mkind, mkey, mval, mold, mcall, mback, mcode, mrv⟩ := more
  unfold Lo.v Lo.box Lo.cells at *
  dsimp only at *
  unfold str at *
  go_enter Try.func7, Try.ntmps7
  go_wp2_with (first
    | (go_at_call 9; refine (HF _).mono ?_; rintro e w1 ⟨rfl, hB1⟩; have HL1 := HB0.out.go hB1)
    | fail)
  refine (HFW.out _ HL1.bel).mono ?_
  rintro e w2 ⟨t, n2, rfl, ht, rfl⟩
  have HL2 := HL1.drew (n := n2)
  generalize w1.drewN n2 = w2 at *
  clear HL1 hB1 HB0
  have HCK2 := HCK.out w2 HL2.bel
  generalize hce : checkE h = ce at *
  cases ht6 : t with
  | false =>
    subst ht6
    go_wp2_with fail
    refine HCK2.mono ?_
    rintro e w3 ⟨rfl, hB3⟩
    have HL3 := HL2.go hB3
    clear hB3 HCK2 HL2
    cases ce <;> (go_wp2; go_ret; exact ⟨rfl, HL3.bel⟩)
  | true =>
    subst ht6
    have h6 := ht rfl
    clear ht
    by_cases hz : h.length = 0
    · obtain rfl : h = [] := List.length_eq_zero_iff.1 hz
      clear hz hA
      go_wp2_with fail
      refine HCK2.mono ?_
      rintro e w3 ⟨rfl, hB3⟩
      have HL3 := HL2.go hB3
      clear hB3 HCK2 HL2
      go_wp2
      go_ret
      exact ⟨rfl, HL3.bel⟩
    have hzb : ((h.length : Int) == 0) = false := by simpa using hz
    cases ce with
    | false =>
      go_wp2_with fail
      refine HCK2.mono ?_
      rintro e w3 ⟨rfl, hB3⟩
      have HL3 := HL2.go hB3
      clear hB3 HCK2 HL2
      go_wp2
      go_ret
      exact ⟨rfl, HL3.bel⟩
    | true =>
      have HCE : Hid (checkE h = true) := hce
      have hv : valid h = 0 := (check_iff.1 hce).1
      have HV : Hid (valid h = 0) := hv
      rw [hv] at HCK2
      clear hce hv
      obtain ⟨q, hq, hqe⟩ := which_of wh h.length (by omega) (by omega)
      obtain ⟨b, off, rfl, hb, hrun⟩ := hA.run (by omega)
      have HRUN : Hid (∀ W, Below w.heap.size w W → HRun W b off h) := fun W hW => hrun.below hW hb
      clear hrun hA
      go_wp2_with fail
      refine HCK2.mono ?_
      rintro e w3 ⟨rfl, hB3⟩
      have HL3 := HL2.go hB3
      clear hB3 HCK2 HL2
      obtain ⟨c0, c1, c2, c3, c4, c5, c6, c7, c8, c9⟩ := HRUN.out w3 HL3.bel q hq
      have HXK : Hid (LoOk (oat h q)) := HOK.out _ (oat_mem hq)
      have HLX : Hid (Lb w w.heap.size _ (w3.alloc (oat h q).box)) := HL3.go ((Below.refl _ w3).alloc (Nat.le_refl _) _)
      have HXB : Hid ((w3.alloc (oat h q).box).heap[w3.heap.size]? = some (oat h q).box) := heap_alloc_new _ _
      have hz3 : w.heap.size < w3.heap.size := HL3.lt
      unfold Lo.box Lo.cells at HLX HXB
      generalize hxe : oat h q = x at *
      unfold str at c3 c4 c5 c9 HLX HXB
      clear HL3
      go_wp2_with (go_at_call 19; refine (HN _ _).mono ?_; rintro e w9 ⟨rfl, hw9⟩; subst w9)
      clear c0 c1 c2 c3 c4 c5 c6 c7 c8 c9 hqe
      generalize hW4 : w3.alloc (.cells #[.int .i64 x.cl, .int .i64 x.sq, .int .i64 x.kind, .string ⟨x.key.toArray⟩, .string ⟨x.val.toArray⟩, .string ⟨x.old.toArray⟩, .int .i64 x.call, .int .i64 x.back, .int .i64 x.rp.code, .string ⟨x.rp.val.toArray⟩] 35) = W4 at *
      have hz4 : w3.heap.size < W4.heap.size := by rw [← hW4]; simp
      clear hW4
      have hr4 := HRUN.out _ HLX.out.bel
      have hqc : q ≤ cap := by omega
      have hwq : IntKind.i64.wrap ((q : Int) + 1) = (q : Int) + 1 := by rw [IntKind.wrap_i64]; omega
      have hwt : ((q : Int) + 1).toNat = q + 1 := by omega
      have hwb : 0 ≤ (q : Int) + 1 ∧ (q : Int) + 1 ≤ (h.length : Int) := by omega
      have hbW : b < W4.heap.size := by omega
      have hqc2 : q + 1 ≤ cap := by omega
      have hqh : q + 1 ≤ h.length := by omega
      obtain ⟨ad, had, HADN⟩ : ∃ ad : Addr, (if cap = q + 1 then some (⟨b, off, none⟩ : Addr) else some ⟨b, off + (q + 1) * 10, none⟩) = some ad ∧ Hid (∀ W, HRun W b off h → ∀ j u, (opC (h.drop (q + 1)))[j]? = some u → W.cell? (ad.add j) = some u) := by
        by_cases e : cap = q + 1
        · refine ⟨⟨b, off, none⟩, by rw [if_pos e], fun W hW j u hj => ?_⟩
          rw [List.drop_eq_nil_of_le (by omega)] at hj
          simp [opC] at hj
        · exact ⟨⟨b, off + (q + 1) * 10, none⟩, by rw [if_neg e], fun W hW => (hW.drop (q + 1)).news⟩
      have hdl : (h.drop (q + 1)).length = h.length - (q + 1) := List.length_drop
      have HDL : Hid ((opC (h.drop (q + 1))).length = (h.length - (q + 1)) * 10) := by show _ = _; rw [opC_len, hdl]
      clear hdl
      have HOO : Hid (∀ (w6 : World) (v6 : Value), w6.ownsRow w.heap.size 35 10 v6 (0 + q + (h.length - (q + 1))) ([] ++ opC (h.take q) ++ opC (h.drop (q + 1))) → OOw w.heap.size w6 v6 (h.take q ++ h.drop (q + 1))) := fun w6 v6 hr => by
        have h1 : (h.take q ++ h.drop (q + 1)).length = 0 + q + (h.length - (q + 1)) := by simp; omega
        unfold OOw
        rw [h1]
        have h2 : (h.take q ++ h.drop (q + 1)).flatMap (fun x => x.cells.toList) = [] ++ opC (h.take q) ++ opC (h.drop (q + 1)) := by rw [List.nil_append]; exact opC_app _ _
        rw [h2]
        exact hr
      go_region_law (first
        | (refine step_app tyO rfl (.tmp 72) (.tmp 75) rfl w.heap.size (.slice (some ⟨W4.heap.size, 0, none⟩) 0 0) 0 [] ⟨b, off, none⟩ q cap (opC (h.take q)) (by simp [Act.eval]) (own_empty W4.drew (by simp; omega)) (by simp [Act.eval]) (by rw [opC_len, List.length_take]; omega) ((hr4.below (N := W4.heap.size) ((Below.refl _ W4).drew.alloc (Nat.le_refl _) _) hbW).take q).news (opC_one _) (by omega) (by simp; omega) ?_; intro v5 w5 q1 q2 q3; obtain ⟨a5, c5, hv5, -, -⟩ := row_shape q1; subst hv5)
        | (refine step_app tyO rfl (.tmp 76) (.tmp 80) rfl w.heap.size (.slice a5 (0 + q) c5) (0 + q) _ ad (h.length - (q + 1)) (cap - (q + 1)) (opC (h.drop (q + 1))) (by simp [Act.eval]) q1 (by simp [Act.eval]) HDL.out (HADN.out _ (hr4.below (N := W4.heap.size) (((Below.refl _ W4).drew.alloc (Nat.le_refl _) _).grown q2 (by simp) (fun g hg => by cases hg; exact Nat.le_refl _)) hbW)) (opC_one _) (by omega) (by have := q2.size; simp at this; omega) ?_; intro v6 w6 r1 r2 r3; obtain ⟨a6, c6, hv6, -, -⟩ := row_shape r1; subst hv6)
        | fail)
      have hz5 : W4.heap.size ≤ w5.heap.size := by have := q2.size; simp at this; omega
      have HB6 : Hid (Below W4.heap.size W4 w6) := (((Below.refl _ W4).drew.alloc (Nat.le_refl _) _).grown q2 (by simp) (fun g hg => by cases hg; exact Nat.le_refl _)).grown r2 hz5 (fun g hg => by
        rcases q3 with e | e
        · rw [e] at hg; cases hg; exact Nat.le_refl _
        · rw [e] at hg; cases hg; simp)
      have HO6 : Hid (OOw w.heap.size w6 (.slice a6 (0 + q + (h.length - (q + 1))) c6) (h.take q ++ h.drop (q + 1))) := HOO.out _ _ r1
      have HL6 : Hid (Lc w (.cells #[.int .i64 mcl, .int .i64 msq, .int .i64 mkind, .string ⟨mkey.toArray⟩, .string ⟨mval.toArray⟩, .string ⟨mold.toArray⟩, .int .i64 mcall, .int .i64 mback, .int .i64 mcode, .string ⟨mrv.toArray⟩] 35) w3.heap.size (.cells #[.int .i64 x.cl, .int .i64 x.sq, .int .i64 x.kind, .string ⟨x.key.toArray⟩, .string ⟨x.val.toArray⟩, .string ⟨x.old.toArray⟩, .int .i64 x.call, .int .i64 x.back, .int .i64 x.rp.code, .string ⟨x.rp.val.toArray⟩] 35) w6) :=
        (⟨HLX.out.blk, HXB.out, hz3, HLX.out.bel⟩ : Lc w _ w3.heap.size _ W4).go HB6.out
      clear q1 q2 q3 r1 r2 r3 hz5 HB6 HADN HDL HOO had hwq hwt hwb hr4 hqc hqc2 hbW
      have hl1 : (h.take q ++ h.drop (q + 1)).length = q + (h.length - (q + 1)) := by simp; omega
      rw [Nat.zero_add] at HO6
      have HCL : Hid (checkE (h.take q ++ h.drop (q + 1)) = true → ∀ W, Below w6.heap.size w6 W → Calls Try.prog 12 #[.slice a6 (q + (h.length - (q + 1))) c6] W fun e w' => e = .returned (.tuple #[.bool true, .int .i64 0]) ∧ Below W.heap.size W w') := fun hc W hW => by
        have h1 := HO6.out
        rw [← hl1] at h1
        have := check_any W.heap.size W a6 c6 (h.take q ++ h.drop (q + 1)) (Nat.le_refl _) (OOw.hat (row_below h1 hW) (Nat.le_refl _)) (fun o ho => HOK.out o (by rcases List.mem_append.1 ho with e | e; exact List.mem_of_mem_take e; exact List.mem_of_mem_drop e)) (by rw [hl1]; unfold maxLen; omega)
        rw [hc, (check_iff.1 hc).1, hl1] at this
        exact this
      clear hl1
      generalize w3.heap.size = xb at *
      have HE6 := HEX.out w6 x.key HL6.out.bel
      have hee : explE h x.key = explain h x.key := by unfold explE; rw [if_pos HV.out]
      rw [hee] at HE6
      obtain ⟨el, hel⟩ : ∃ el, (explain h x.key).getD [] = el := ⟨_, rfl⟩
      rw [hel] at HE6
      have HUS : Hid (q ∉ el → ∀ l, explain h x.key = some l → q ∉ l) := fun hq l hl => by rw [hl] at hel; rw [← hel] at hq; exact hq
      have HLS : Hid ((x.kind = 1 ∨ (x.back = 0 ∧ q ∉ el)) → checkE (h.take q ++ h.drop (q + 1)) = true) := fun hc => by
        refine check_less hq HCE.out ?_
        rw [hxe]
        exact hc.imp id (fun h2 => ⟨h2.1, HUS.out h2.2⟩)
      obtain ⟨⟨-, -, -, y3, -, -, -, -, -, -⟩, -⟩ := cells10 HL6.out.x
      generalize (explain h x.key).isSome = eb at *
      clear hee hel HUS
      go_wp2_with fail
      refine HE6.mono ?_
      rintro e w7 ⟨lv, rfl, hI7, hB7⟩
      obtain ⟨la, lc, hls, hc7, hm7⟩ := row_shape hI7
      subst hls
      have HL7 : Hid (Lc w _ xb _ w7) := HL6.out.go hB7
      have HB7 : Hid (Below w6.heap.size w6 w7) := hB7
      have HI7 : Hid (IOw _ w7 _ el) := hI7
      unfold maxLen at hm7
      clear hI7 hB7 HE6 y3 HL6
      go_wp2_with fail
      go_loopw [19, 18] (fun i uv wr => ∃ k : Nat, i = .int .i64 k ∧ k ≤ el.length ∧ uv = .bool (decide (q ∈ el.take k)) ∧ wr = w7) (fun i _ _ => el.length - (intOf i).toNat)
      case atStart => exact ⟨0, rfl, by omega, by simp, rfl⟩
      case round =>
        obtain ⟨k, rfl, hk, rfl, rfl⟩ := hrel
        by_cases hlt : k < el.length
        · obtain ⟨g, rfl, -, -⟩ := row_ptr HI7.out (by omega)
          have ck := (row_cell HI7.out (j := k) (by omega)).1
          rw [show (el.map encI).getD k undef = .int .i64 ((el.getD k 0 : Nat) : Int) from by rw [List.getD_eq_getElem?_getD, List.getElem?_map, List.getElem?_eq_getElem hlt, List.getD_eq_getElem?_getD, List.getElem?_eq_getElem hlt]; rfl] at ck
          have hms := mem_take_succ (q := q) hlt
          generalize el.getD k 0 = y at *
          cases hu : decide (q ∈ el.take k) with
          | true =>
            have HMS : Hid (decide (q ∈ el.take (k + 1)) = true) := by show _ = _; rw [hms, hu]; rfl
            clear hms hu
            go_wp2
            exact ⟨⟨k + 1, by simp, by omega, by rw [HMS.out], by first | trivial | rfl⟩, by simp [intOf]; omega⟩
          | false =>
            have HMS : Hid (decide (q ∈ el.take (k + 1)) = ((y : Int) == (q : Int))) := by show _ = _; rw [hms, hu, Bool.false_or, Bool.eq_iff_iff]; simp; omega
            clear hms hu
            go_wp2
            exact ⟨⟨k + 1, by simp, by omega, by rw [HMS.out], by first | trivial | rfl⟩, by simp [intOf]; omega⟩
        · have hkl : k = el.length := by omega
          subst hkl
          rw [List.take_length]
          have HLS2 : Hid ((x.kind = 1 ∨ (x.back = 0 ∧ decide (q ∈ el) = false)) → checkE (h.take q ++ h.drop (q + 1)) = true) := fun hc => HLS.out (hc.imp id (fun h2 => ⟨h2.1, by simpa using h2.2⟩))
          have HCM : Hid (∀ om : Obj, True) := fun _ => trivial
          clear HLS HI7 HCM
          generalize decide (q ∈ el) = ub at *
          obtain ⟨⟨-, -, y2, -, -, -, -, y7, -, -⟩, -⟩ := cells10 HL7.out.x
          go_upto_region 15 with fail
          go_cut [116] (fun v wx => v = .bool (decide (x.kind = 1) || (decide (x.back = 0) && !ub)) ∧ wx = wr)
          case first =>
            as_aux_lemma =>
            by_cases k1 : x.kind = 1
            · have k1b : (x.kind == 1) = true := by simpa using k1
              have HR : Hid ((decide (x.kind = 1) || (decide (x.back = 0) && !ub)) = true) := by show _ = _; simp [k1]
              clear k1
              go_wp2_with fail
              go_meet
              exact ⟨by rw [HR.out], rfl⟩
            have k1b : (x.kind == 1) = false := by simpa using k1
            by_cases k2 : x.back = 0
            · have k2b : (x.back == 0) = true := by simpa using k2
              have HR : Hid ((decide (x.kind = 1) || (decide (x.back = 0) && !ub)) = !ub) := by show _ = _; simp [k1, k2]
              clear k1 k2
              cases ub
              all_goals (
                go_wp2_with fail
                go_meet
                exact ⟨by rw [HR.out]; rfl, rfl⟩)
            · have k2b : (x.back == 0) = false := by simpa using k2
              have HR : Hid ((decide (x.kind = 1) || (decide (x.back = 0) && !ub)) = false) := by show _ = _; simp [k1, k2]
              clear k1 k2
              go_wp2_with fail
              go_meet
              exact ⟨by rw [HR.out], rfl⟩
          case rest =>
            obtain ⟨hu1, hw1⟩ := hcut
            subst hw1
            subst hu1
            clear y2 y7
            have HS2 : Hid ((decide (x.kind = 1) || (decide (x.back = 0) && !ub)) = true → checkE (h.take q ++ h.drop (q + 1)) = true) := fun hc => HLS2.out (by simpa using hc)
            clear HLS2
            generalize (decide (x.kind = 1) || (decide (x.back = 0) && !ub)) = c1 at *
            go_upto_if 116 with fail
            go_cut [20, 21] (fun _ _ wx => Lc w (⟨mcl, msq, mkind, mkey, mval, mold, mcall, mback, ⟨mcode, mrv⟩⟩ : Lo).box xb x.box wx)
            case first =>
              as_aux_lemma =>
              cases c1 with
              | true =>
                have hck := HCL.out (HS2.out rfl) _ HB7.out
                go_wp2_with fail
                refine hck.mono ?_
                rintro e w8 ⟨rfl, hB8⟩
                go_wp2_with fail
                go_meet
                exact HL7.out.go hB8
              | false =>
                go_wp2_with fail
                go_meet
                exact HL7.out
            case rest =>
              have HL8 : Hid (Lc w (⟨mcl, msq, mkind, mkey, mval, mold, mcall, mback, ⟨mcode, mrv⟩⟩ : Lo).box xb x.box wc) := hcut
              clear hcut HL7 HB7 HO6 HCL HS2
              generalize wc = W8 at *
              have HOC : Hid ((opC h).length = h.length * 10) := opC_len h
              have hz8 : w.heap.size ≤ W8.heap.size := HL8.out.bel.size
              have HRN : Hid (HRun (W8.alloc (.cells #[] 35)) b off h) := (HRUN.out _ HL8.out.bel).below (N := W8.heap.size) ((Below.refl _ W8).alloc (Nat.le_refl _) _) (by omega)
              go_upto_region 20 with (at_builtin; refine wpList_app tyO rfl _ _ rfl w.heap.size (.slice (some ⟨W8.heap.size, 0, none⟩) 0 0) 0 [] ⟨b, off, none⟩ h.length cap (opC h) rfl (own_empty W8 hz8) rfl HOC.out HRN.out.news (opC_one h) (by omega) (by simp; omega) ?_; intro v9 w9 p1 p2 p3; rw [Nat.zero_add, List.nil_append] at p1; obtain ⟨a9, c9, hv9, -, -⟩ := row_shape p1; subst hv9; obtain ⟨g9, hg9, -, -⟩ := row_ptr p1 (by omega); subst hg9; have HB9 : Hid (Below W8.heap.size W8 w9) := (((Below.refl _ W8).alloc (Nat.le_refl _) _).grown p2 (by simp) (fun g hg => by cases hg; exact Nat.le_refl _)); have HO9 : Hid (OOw w.heap.size w9 (.slice (some ⟨g9, 0, none⟩) h.length c9) h) := p1; have HG9 : Hid (W8.heap.size ≤ g9) := g_of p3; clear p1 p2 p3)
              have HL9 : Hid (Lc w (⟨mcl, msq, mkind, mkey, mval, mold, mcall, mback, ⟨mcode, mrv⟩⟩ : Lo).box xb x.box w9) := HL8.out.go HB9.out
              obtain ⟨z0, z1, z2, z3, z4, z5, z6, z7, z8, z9⟩ := opAt_box HL9.out.x
              unfold str at z3 z4 z5 z9
              have HXC := counts_any x
              unfold Lo.v Lo.box Lo.cells at HXC
              unfold str at HXC
              go_cut [138] (fun v wx => v = .bool (decide (x.back ≠ 0) && decide (x.kind ≠ 1) && x.counts) ∧ Below w9.heap.size w9 wx)
              case first =>
                as_aux_lemma =>
                by_cases k2 : x.back = 0
                · have k2b : (x.back != 0) = false := by simp [k2]
                  have HR : Hid ((decide (x.back ≠ 0) && decide (x.kind ≠ 1) && x.counts) = false) := by show _ = _; simp [k2]
                  clear k2
                  go_wp2_with fail
                  go_meet
                  exact ⟨by rw [HR.out], Below.refl _ _⟩
                have k2b : (x.back != 0) = true := by simpa using k2
                by_cases k1 : x.kind = 1
                · have k1b : (x.kind != 1) = false := by simp [k1]
                  have HR : Hid ((decide (x.back ≠ 0) && decide (x.kind ≠ 1) && x.counts) = false) := by show _ = _; simp [k1]
                  clear k1 k2
                  go_wp2_with fail
                  go_meet
                  exact ⟨by rw [HR.out], Below.refl _ _⟩
                have k1b : (x.kind != 1) = true := by simpa using k1
                have HR : Hid ((decide (x.back ≠ 0) && decide (x.kind ≠ 1) && x.counts) = x.counts) := by show _ = _; simp [k1, k2]
                clear k1 k2
                go_wp2_with (go_at_call 16; refine (HXC _).mono ?_; rintro e wn ⟨rfl, rfl⟩)
                go_meet
                exact ⟨by rw [HR.out], below2 _ _ _⟩
              case rest =>
                obtain ⟨hu2, hB10⟩ := hcut
                subst hu2
                generalize wc = W10 at *
                have HL10 : Hid (Lc w (⟨mcl, msq, mkind, mkey, mval, mold, mcall, mback, ⟨mcode, mrv⟩⟩ : Lo).box xb x.box W10) := HL9.out.go hB10
                have HO10 : Hid (OOw w.heap.size W10 (.slice (some ⟨g9, 0, none⟩) h.length c9) h) := row_below HO9.out hB10
                have HGX : Hid (xb < g9) := Nat.lt_of_lt_of_le HL8.out.lt HG9.out
                have HTO : Hid ((decide (x.back ≠ 0) && decide (x.kind ≠ 1) && x.counts) = true → checkE (h.set q (opened x)) = true) := fun hc => by
                  simp only [Bool.and_eq_true, decide_eq_true_eq] at hc
                  have := check_open (i := q) HCE.out (by rw [hxe]; exact hc.1.2) (by rw [hxe]; exact hc.2)
                  rw [hxe] at this
                  exact this
                clear z0 z1 z2 z3 z4 z5 z6 z7 z8 z9 hB10 HL9 HO9 HL8 HG9 HB9 HXC HRN hz8
                generalize (decide (x.back ≠ 0) && decide (x.kind ≠ 1) && x.counts) = c2 at *
                go_upto_if 138 with fail
                go_cut [23, 24] (fun _ _ wx => Lc w (⟨mcl, msq, mkind, mkey, mval, mold, mcall, mback, ⟨mcode, mrv⟩⟩ : Lo).box xb x.box wx)
                case first =>
                  as_aux_lemma =>
                  cases c2 with
                  | true =>
                    have hzq : q * 10 + 9 < h.length * 10 := by omega
                    obtain ⟨s7, t7⟩ := row_cell HO10.out (j := q * 10 + 7) (by omega)
                    obtain ⟨s8, t8⟩ := row_cell HO10.out (j := q * 10 + 8) (by omega)
                    obtain ⟨s9, t9⟩ := row_cell HO10.out (j := q * 10 + 9) (by omega)
                    have HO11 := HO10.out.opened hq
                    rw [hxe] at HO11
                    have hL11 : Lc w (⟨mcl, msq, mkind, mkey, mval, mold, mcall, mback, ⟨mcode, mrv⟩⟩ : Lo).box xb x.box (((W10.setCell ⟨g9, q * 10 + 7, none⟩ (.int .i64 0)).setCell ⟨g9, q * 10 + 8, none⟩ (.int .i64 0)).setCell ⟨g9, q * 10 + 9, none⟩ (.string ⟨#[]⟩)) := HL10.out.out (((Out.set (X := fun i => i = g9) rfl).put rfl).put rfl) HGX.out
                    have HCT := check_any _ _ (some ⟨g9, 0, none⟩) c9 (h.set q (opened x)) (Nat.le_refl _) (OOw.hat HO11 (Nat.le_refl _)) (fun o ho => by
                      rcases List.mem_or_eq_of_mem_set ho with e | e
                      · exact HOK.out o e
                      · rw [e]; exact ⟨HXK.out.key, HXK.out.val, HXK.out.old, by simp [opened]⟩) (by rw [List.length_set]; exact hl)
                    rw [HTO.out rfl, (check_iff.1 (HTO.out rfl)).1, List.length_set] at HCT
                    have HL11 : Hid (Lc w (⟨mcl, msq, mkind, mkey, mval, mold, mcall, mback, ⟨mcode, mrv⟩⟩ : Lo).box xb x.box (((W10.setCell ⟨g9, q * 10 + 7, none⟩ (.int .i64 0)).setCell ⟨g9, q * 10 + 8, none⟩ (.int .i64 0)).setCell ⟨g9, q * 10 + 9, none⟩ (.string ⟨#[]⟩))) := hL11
                    clear HO11 hL11 HTO HO10
                    go_wp2_with fail
                    refine HCT.mono ?_
                    rintro e w12 ⟨rfl, hB12⟩
                    have HL12 := HL11.out.go hB12
                    go_wp2_with (go_at_call 19; refine (HN _ _).mono ?_; rintro e wn ⟨rfl, hwn⟩; subst wn)
                    go_meet
                    exact HL12
                  | false =>
                    go_wp2_with fail
                    go_meet
                    exact HL10.out
                case rest =>
                  have HL12 : Hid (Lc w (⟨mcl, msq, mkind, mkey, mval, mold, mcall, mback, ⟨mcode, mrv⟩⟩ : Lo).box xb x.box wc) := hcut
                  clear hcut HL10 HO10 HTO HGX
                  generalize wc = W12 at *
                  have hz12 : w.heap.size ≤ W12.heap.size := HL12.out.bel.size
                  have HRN : Hid (HRun (W12.alloc (.cells #[] 35)) b off h) := (HRUN.out _ HL12.out.bel).below (N := W12.heap.size) ((Below.refl _ W12).alloc (Nat.le_refl _) _) (by omega)
                  go_upto_if 165 with (at_builtin; refine wpList_app tyO rfl _ _ rfl w.heap.size (.slice (some ⟨W12.heap.size, 0, none⟩) 0 0) 0 [] ⟨b, off, none⟩ h.length cap (opC h) rfl (own_empty W12 hz12) rfl HOC.out HRN.out.news (opC_one h) (by omega) (by simp; omega) ?_; intro v13 w13 p1 p2 p3; rw [Nat.zero_add, List.nil_append] at p1; obtain ⟨a13, c13, hv13, -, -⟩ := row_shape p1; subst hv13; obtain ⟨g13, hg13, -, -⟩ := row_ptr p1 (by omega); subst hg13; have HB13 : Hid (Below W12.heap.size W12 w13) := (((Below.refl _ W12).alloc (Nat.le_refl _) _).grown p2 (by simp) (fun g hg => by cases hg; exact Nat.le_refl _)); have HO13 : Hid (OOw w.heap.size w13 (.slice (some ⟨g13, 0, none⟩) h.length c13) h) := p1; have HG13 : Hid (W12.heap.size ≤ g13) := g_of p3; have HL13 : Hid (Lc w (⟨mcl, msq, mkind, mkey, mval, mold, mcall, mback, ⟨mcode, mrv⟩⟩ : Lo).box xb x.box w13) := HL12.out.go HB13.out; obtain ⟨-, -, -, -, -, -, -, z7, -, -⟩ := opAt_box HL13.out.x; clear p1 p2 p3)
                  have HGX : Hid (xb < g13) := Nat.lt_of_lt_of_le HL12.out.lt HG13.out
                  clear HL12 HG13 HB13 HRN hz12
                  go_cut [25, 26] (fun _ _ wx => Lc w (⟨mcl, msq, mkind, mkey, mval, mold, mcall, mback, ⟨mcode, mrv⟩⟩ : Lo).box xb x.box wx)
                  case first =>
                    as_aux_lemma =>
                    by_cases k2 : x.back = 0
                    · have k2b : (x.back != 0) = false := by simp [k2]
                      clear k2
                      go_wp2_with fail
                      go_meet
                      exact HL13.out
                    have k2b : (x.back != 0) = true := by simpa using k2
                    have hpos : 1 ≤ x.back := sound_pos (by have := (valid_iff.1 HV.out).2.1 _ (oat_mem hq); rw [hxe] at this; exact this) k2
                    obtain ⟨m0, hm0⟩ : ∃ m0, max lt 0 = m0 := ⟨_, rfl⟩
                    obtain ⟨tt, htt⟩ : ∃ tt, min m0 1000 = tt := ⟨_, rfl⟩
                    have ht0 : 0 ≤ tt ∧ tt ≤ 1000 := by omega
                    obtain ⟨s7, t7⟩ := row_cell HO13.out (j := q * 10 + 7) (by omega)
                    have HO14 := HO13.out.turn hq (r := 7) (by omega) (later x (wrap64 (x.back + tt))) (.int .i64 (wrap64 (x.back + tt))) (by rw [hxe]; rfl)
                    have hL14 : Lc w (⟨mcl, msq, mkind, mkey, mval, mold, mcall, mback, ⟨mcode, mrv⟩⟩ : Lo).box xb x.box (w13.setCell ⟨g13, q * 10 + 7, none⟩ (.int .i64 (wrap64 (x.back + tt)))) := HL13.out.out (Out.set (X := fun i => i = g13) rfl) HGX.out
                    have HL14 : Hid (Lc w (⟨mcl, msq, mkind, mkey, mval, mold, mcall, mback, ⟨mcode, mrv⟩⟩ : Lo).box xb x.box (w13.setCell ⟨g13, q * 10 + 7, none⟩ (.int .i64 (wrap64 (x.back + tt))))) := hL14
                    have HCT := check_any _ _ (some ⟨g13, 0, none⟩) c13 (h.set q (later x (wrap64 (x.back + tt)))) (Nat.le_refl _) (OOw.hat HO14 (Nat.le_refl _)) (fun o ho => by
                      rcases List.mem_or_eq_of_mem_set ho with e | e
                      · exact HOK.out o e
                      · rw [e]; exact ⟨HXK.out.key, HXK.out.val, HXK.out.old, HXK.out.rv⟩) (by rw [List.length_set]; exact hl)
                    rw [List.length_set] at HCT
                    have HCB : Hid (x.back < 4611686018427387904 → checkE (h.set q (later x (wrap64 (x.back + tt)))) = true) := fun hb2 => by
                      have := check_later (i := q) (t := tt) HCE.out hq (by rw [hxe]; exact k2) ht0.1
                      rw [hxe] at this
                      rw [IntWalk.wrap64_in _ ⟨by omega, by omega⟩]
                      exact this
                    generalize checkE (h.set q (later x (wrap64 (x.back + tt)))) = cb at *
                    generalize valid (h.set q (later x (wrap64 (x.back + tt)))) = vb at *
                    clear k2 hpos ht0 HO14 hL14 HO13 HL13
                    go_wp2_with fail
                    refine HCT.mono ?_
                    rintro e w15 ⟨rfl, hB15⟩
                    have HL15 := HL14.out.go hB15
                    obtain ⟨-, -, -, -, -, -, -, z7', -, -⟩ := opAt_box HL15.x
                    clear hB15
                    cases cb with
                    | true =>
                      go_wp2_with fail
                      go_meet
                      exact HL15
                    | false =>
                      have hb3 : ¬ x.back < 4611686018427387904 := fun hb => by cases HCB.out hb
                      have hb4 : decide (x.back < 4611686018427387904) = false := decide_eq_false hb3
                      go_wp2_with fail
                      go_meet
                      exact HL15
                  case rest =>
                    have HL15 : Hid (Lc w (⟨mcl, msq, mkind, mkey, mval, mold, mcall, mback, ⟨mcode, mrv⟩⟩ : Lo).box xb x.box wc) := hcut
                    clear hcut HL13 HO13 HGX z7
                    generalize wc = W15 at *
                    obtain ⟨n0, n1, n2, n3, n4, n5, n6, n7, n8, n9⟩ := opAt_box HL15.out.m
                    unfold str at n3 n4 n5 n9
                    dsimp only at n0 n1 n2 n3 n4 n5 n6 n7 n8 n9
                    have nf : ∀ o, W15.frozen? ⟨w.heap.size, o, none⟩ = false := fun o => by have := HL15.out.m; unfold Lo.box at this; simp [World.frozen?, this]
                    have hm16 : (((W15.setCell ⟨w.heap.size, 7, none⟩ (.int .i64 0)).setCell ⟨w.heap.size, 8, none⟩ (.int .i64 0)).setCell ⟨w.heap.size, 9, none⟩ (.string ⟨#[]⟩)).heap[w.heap.size]? = some (⟨mcl, msq, mkind, mkey, mval, mold, mcall, 0, ⟨0, []⟩⟩ : Lo).box := by
                      rw [heap_set (heap_set (heap_set HL15.out.m 7 _) 8 _) 9 _]; rfl
                    have hb16 : Below w.heap.size w (((W15.setCell ⟨w.heap.size, 7, none⟩ (.int .i64 0)).setCell ⟨w.heap.size, 8, none⟩ (.int .i64 0)).setCell ⟨w.heap.size, 9, none⟩ (.string ⟨#[]⟩)) := ((HL15.out.bel.setCell (p := ⟨w.heap.size, 7, none⟩) (Nat.le_refl _) _).setCell (p := ⟨w.heap.size, 8, none⟩) (Nat.le_refl _) _).setCell (p := ⟨w.heap.size, 9, none⟩) (Nat.le_refl _) _
                    have HM16 : Hid (_ = some (⟨mcl, msq, mkind, mkey, mval, mold, mcall, 0, ⟨0, []⟩⟩ : Lo).box) := hm16
                    have HB16 : Hid (Below w.heap.size w (((W15.setCell ⟨w.heap.size, 7, none⟩ (.int .i64 0)).setCell ⟨w.heap.size, 8, none⟩ (.int .i64 0)).setCell ⟨w.heap.size, 9, none⟩ (.string ⟨#[]⟩))) := hb16
                    have hmk := HMO.out.ok.key
                    unfold maxLen at hmk
                    dsimp only at hmk
                    clear hm16 hb16
                    by_cases p9 : 9000 < mkey.length
                    · have p9' : (9000 : Int) < (mkey.length : Int) := by omega
                      go_wp2
                      go_ret
                      exact ⟨rfl, HB16.out⟩
                    have p9' : ¬ (9000 : Int) < (mkey.length : Int) := by omega
                    go_upto_region 36 with fail
                    generalize hW16 : (((W15.setCell ⟨w.heap.size, 7, none⟩ (.int .i64 0)).setCell ⟨w.heap.size, 8, none⟩ (.int .i64 0)).setCell ⟨w.heap.size, 9, none⟩ (.string ⟨#[]⟩)) = W16 at *
                    clear hW16 n0 n1 n2 n3 n4 n5 n6 n7 n8 n9 nf HL15 p9 p9'
                    obtain ⟨o0, o1, o2, o3, o4, o5, o6, o7, o8, o9⟩ := opAt_box HM16.out
                    unfold str at o3 o4 o5 o9
                    dsimp only at o0 o1 o2 o3 o4 o5 o6 o7 o8 o9
                    have hz16 : w.heap.size ≤ W16.heap.size := HB16.out.size
                    have hl16 : w.heap.size < W16.heap.size := (Array.getElem?_eq_some_iff.1 HM16.out).1
                    have HRN : Hid (HRun W16 b off h) := HRUN.out _ HB16.out
                    have hbb : b < W16.heap.size := by omega
                    have HCV : Hid (valid (h ++ [(⟨mcl, msq, mkind, mkey, mval, mold, mcall, 0, ⟨0, []⟩⟩ : Lo)]) = 0 → checkE (h ++ [(⟨mcl, msq, mkind, mkey, mval, mold, mcall, 0, ⟨0, []⟩⟩ : Lo)]) = true) := fun hv2 => check_more HCE.out rfl hv2
                    have HOK2 : Hid (∀ o ∈ h ++ [(⟨mcl, msq, mkind, mkey, mval, mold, mcall, 0, ⟨0, []⟩⟩ : Lo)], LoOk o) := fun o ho => by
                      rcases List.mem_append.1 ho with e | e
                      · exact HOK.out o e
                      · rw [List.mem_singleton.1 e]; exact ⟨HMO.out.ok.key, HMO.out.ok.val, HMO.out.ok.old, by simp⟩
                    obtain ⟨cb, hcb⟩ : ∃ cb, checkE (h ++ [(⟨mcl, msq, mkind, mkey, mval, mold, mcall, 0, ⟨0, []⟩⟩ : Lo)]) = cb := ⟨_, rfl⟩
                    obtain ⟨vb, hvb⟩ : ∃ vb, valid (h ++ [(⟨mcl, msq, mkind, mkey, mval, mold, mcall, 0, ⟨0, []⟩⟩ : Lo)]) = vb := ⟨_, rfl⟩
                    have HCH : Hid (∀ (W : World) (a7 : Option Addr) (c7 : Nat), W.ownsRow W16.heap.size 35 10 (.slice a7 (h.length + 1) c7) (h.length + 1) (opC h ++ (⟨mcl, msq, mkind, mkey, mval, mold, mcall, 0, ⟨0, []⟩⟩ : Lo).cells.toList) → Calls Try.prog 12 #[.slice a7 (h.length + 1) c7] W fun e w' => e = .returned (.tuple #[.bool cb, .int .i64 vb]) ∧ Below W.heap.size W w') := fun W a7 c7 hr => by
                      have h1 : OOw W16.heap.size W (.slice a7 (h.length + 1) c7) (h ++ [(⟨mcl, msq, mkind, mkey, mval, mold, mcall, 0, ⟨0, []⟩⟩ : Lo)]) := OOw.snoc hr
                      have h2 : (h ++ [(⟨mcl, msq, mkind, mkey, mval, mold, mcall, 0, ⟨0, []⟩⟩ : Lo)]).length = h.length + 1 := by simp
                      rw [← h2] at h1
                      have := check_any W.heap.size W a7 c7 (h ++ [(⟨mcl, msq, mkind, mkey, mval, mold, mcall, 0, ⟨0, []⟩⟩ : Lo)]) (Nat.le_refl _) (OOw.hat h1 (Nat.le_refl _)) HOK2.out (by rw [h2]; unfold maxLen; omega)
                      rw [hcb, hvb, h2] at this
                      exact this
                    rw [hcb, hvb] at HCV
                    clear hcb hvb HOK2
                    have HN0 : Hid (∀ W, Below W16.heap.size W16 W → ∀ j u, (opC h)[j]? = some u → W.cell? ((⟨b, off, none⟩ : Addr).add j) = some u) := fun W hW => (HRN.out.below hW hbb).news
                    have hmc : (⟨mcl, msq, mkind, mkey, mval, mold, mcall, 0, ⟨0, []⟩⟩ : Lo).cells = #[.int .i64 mcl, .int .i64 msq, .int .i64 mkind, .string ⟨mkey.toArray⟩, .string ⟨mval.toArray⟩, .string ⟨mold.toArray⟩, .int .i64 mcall, .int .i64 0, .int .i64 0, .string ⟨#[]⟩] := rfl
                    have HE0 : Hid (∀ W : World, W16.heap.size ≤ W.heap.size → (W.alloc (.cells #[] 35)).ownsRow W16.heap.size 35 10 (.slice (some ⟨W.heap.size, 0, none⟩) 0 0) 0 []) := fun W hW => own_empty W hW
                    have B0 : Below W16.heap.size W16 W16.drew := (Below.refl _ W16).drew
                    have HBD : Hid (Below W16.heap.size W16 W16.drew) := B0
                    clear B0 hmc
                    have HE1 : Hid (∀ o : Obj, ((W16.drew.alloc o).alloc (.cells #[] 35)).ownsRow W16.heap.size 35 10 (.slice (some ⟨W16.heap.size + 1, 0, none⟩) 0 0) 0 []) := fun o => by
                      have := own_empty (W16.drew.alloc o) (N := W16.heap.size) (by simp)
                      simpa using this
                    have HCW : Hid (∀ W, Below W16.heap.size W16 W → W.cell? ⟨w.heap.size, 0, none⟩ = some (.int .i64 mcl) ∧ W.cell? ⟨w.heap.size, 1, none⟩ = some (.int .i64 msq) ∧ W.cell? ⟨w.heap.size, 2, none⟩ = some (.int .i64 mkind) ∧ W.cell? ⟨w.heap.size, 3, none⟩ = some (.string ⟨mkey.toArray⟩) ∧ W.cell? ⟨w.heap.size, 4, none⟩ = some (.string ⟨mval.toArray⟩) ∧ W.cell? ⟨w.heap.size, 5, none⟩ = some (.string ⟨mold.toArray⟩) ∧ W.cell? ⟨w.heap.size, 6, none⟩ = some (.int .i64 mcall) ∧ W.cell? ⟨w.heap.size, 7, none⟩ = some (.int .i64 0) ∧ W.cell? ⟨w.heap.size, 8, none⟩ = some (.int .i64 0) ∧ W.cell? ⟨w.heap.size, 9, none⟩ = some (.string ⟨#[]⟩)) := fun W hW => by
                      obtain ⟨p0, p1, p2, p3, p4, p5, p6, p7, p8, p9⟩ := opAt_box ((hW.block _ hl16).trans HM16.out)
                      exact ⟨p0, p1, p2, p3, p4, p5, p6, p7, p8, p9⟩
                    have m0 : W16.heap.size ≠ w.heap.size := by omega
                    have m1 : W16.heap.size + 1 ≠ w.heap.size := by omega
                    have NE1 : Hid ((Value.slice (some ⟨W16.heap.size, 0, none⟩) 0 0).ownBlock ≠ some (W16.heap.size + 1)) := fun e => by
                      have e' : (some W16.heap.size : Option Nat) = some (W16.heap.size + 1) := e
                      injection e' with e2
                      omega
                    have NE2 : Hid ((Value.slice (some ⟨W16.heap.size + 1, 0, none⟩) 0 0).ownBlock ≠ some W16.heap.size) := fun e => by
                      have e' : (some (W16.heap.size + 1) : Option Nat) = some W16.heap.size := e
                      injection e' with e2
                      omega
                    have HOB : Hid (∀ o : Obj, ((W16.alloc (.cells #[] 35)).alloc o).drew.ownsRow W16.heap.size 35 10 (.slice (some ⟨W16.heap.size, 0, none⟩) 0 0) 0 []) := fun o => World.ownsRow.drew (World.ownsRow.alloc (own_empty W16 (Nat.le_refl _)) o)
                    have HOC2 : Hid (∀ o : Obj, ((W16.alloc o).alloc (.cells #[] 35)).drew.ownsRow W16.heap.size 35 10 (.slice (some ⟨W16.heap.size + 1, 0, none⟩) 0 0) 0 []) := fun o => by
                      have := World.ownsRow.drew (own_empty (W16.alloc o) (N := W16.heap.size) (by simp))
                      simpa using this
                    have HBB : Hid (∀ o o' : Obj, Below W16.heap.size W16 ((W16.alloc o).alloc o').drew) := fun o o' => (((Below.refl _ W16).alloc (Nat.le_refl _) o).alloc (by simp) o').drew
                    have HKB : Hid (∀ (o : Obj) (w5 : World), ((W16.alloc o).alloc (.cells (⟨mcl, msq, mkind, mkey, mval, mold, mcall, 0, ⟨0, []⟩⟩ : Lo).cells 35)).drew.grownBy w5 (Value.slice (some ⟨W16.heap.size, 0, none⟩) 0 0).ownBlock → ∀ j u, (⟨mcl, msq, mkind, mkey, mval, mold, mcall, 0, ⟨0, []⟩⟩ : Lo).cells.toList[j]? = some u → w5.cell? ((⟨W16.heap.size + 1, 0, none⟩ : Addr).add j) = some u) := fun o w5 hg => news_kept (w' := ((W16.alloc o).alloc (.cells (⟨mcl, msq, mkind, mkey, mval, mold, mcall, 0, ⟨0, []⟩⟩ : Lo).cells 35)).drew) (n := W16.heap.size + 1) (cs := (⟨mcl, msq, mkind, mkey, mval, mold, mcall, 0, ⟨0, []⟩⟩ : Lo).cells) (τ := 35) (heap_two W16 o (.cells (⟨mcl, msq, mkind, mkey, mval, mold, mcall, 0, ⟨0, []⟩⟩ : Lo).cells 35)).2 hg NE1.out
                    have HKC : Hid (∀ (o : Obj) (w5 : World), ((W16.alloc (.cells (⟨mcl, msq, mkind, mkey, mval, mold, mcall, 0, ⟨0, []⟩⟩ : Lo).cells 35)).alloc o).drew.grownBy w5 (Value.slice (some ⟨W16.heap.size + 1, 0, none⟩) 0 0).ownBlock → ∀ j u, (⟨mcl, msq, mkind, mkey, mval, mold, mcall, 0, ⟨0, []⟩⟩ : Lo).cells.toList[j]? = some u → w5.cell? ((⟨W16.heap.size, 0, none⟩ : Addr).add j) = some u) := fun o w5 hg => news_kept (w' := ((W16.alloc (.cells (⟨mcl, msq, mkind, mkey, mval, mold, mcall, 0, ⟨0, []⟩⟩ : Lo).cells 35)).alloc o).drew) (n := W16.heap.size) (cs := (⟨mcl, msq, mkind, mkey, mval, mold, mcall, 0, ⟨0, []⟩⟩ : Lo).cells) (τ := 35) (heap_two W16 (.cells (⟨mcl, msq, mkind, mkey, mval, mold, mcall, 0, ⟨0, []⟩⟩ : Lo).cells 35) o).1 hg NE2.out
                    go_region_law (first
                        | (refine step_app tyO rfl (.tmp 196) (.tmp 197) rfl W16.heap.size (.slice (some ⟨W16.heap.size, 0, none⟩) 0 0) 0 [] ⟨b, off, none⟩ h.length cap (opC h) (by simp [Act.eval]) (HE0.out W16.drew (Nat.le_refl _)) (by simp [Act.eval]) HOC.out (HN0.out _ (HBD.out.alloc (Nat.le_refl _) _)) (opC_one h) (by omega) (by first | omega | (simp <;> omega)) ?_; intro v5 w5 q1 q2 q3; rw [Nat.zero_add, List.nil_append] at q1; obtain ⟨a5, c5, hv5, -, -⟩ := row_shape q1; subst hv5; have HA5 : Hid (Below W16.heap.size W16 w5) := ((HBD.out.alloc (Nat.le_refl _) _).grown q2 (by first | omega | (simp <;> omega)) (fun g hg => by cases hg; first | exact Nat.le_refl _ | omega)); have HT5 : Hid (w5.cell? ⟨w.heap.size, 0, none⟩ = some (.int .i64 mcl) ∧ w5.cell? ⟨w.heap.size, 1, none⟩ = some (.int .i64 msq) ∧ w5.cell? ⟨w.heap.size, 2, none⟩ = some (.int .i64 mkind) ∧ w5.cell? ⟨w.heap.size, 3, none⟩ = some (.string ⟨mkey.toArray⟩) ∧ w5.cell? ⟨w.heap.size, 4, none⟩ = some (.string ⟨mval.toArray⟩) ∧ w5.cell? ⟨w.heap.size, 5, none⟩ = some (.string ⟨mold.toArray⟩) ∧ w5.cell? ⟨w.heap.size, 6, none⟩ = some (.int .i64 mcall) ∧ w5.cell? ⟨w.heap.size, 7, none⟩ = some (.int .i64 0) ∧ w5.cell? ⟨w.heap.size, 8, none⟩ = some (.int .i64 0) ∧ w5.cell? ⟨w.heap.size, 9, none⟩ = some (.string ⟨#[]⟩)) := HCW.out w5 HA5.out; obtain ⟨t0, t1, t2, t3, t4, t5, t6, t7, t8, t9⟩ := HT5.out; have hza := HA5.out.size; clear q2)
                        | (refine step_app tyO rfl (.tmp 196) (.tmp 197) rfl W16.heap.size (.slice (some ⟨W16.heap.size, 0, none⟩) 0 0) 0 [] ⟨b, off, none⟩ h.length cap (opC h) rfl (HOB.out _) (by simp [Act.eval]) HOC.out (HN0.out _ (HBB.out _ _)) (opC_one h) (by omega) (by first | omega | (simp <;> omega)) ?_; intro v5 w5 q1 q2 q3; rw [Nat.zero_add, List.nil_append] at q1; obtain ⟨a5, c5, hv5, -, -⟩ := row_shape q1; subst hv5; have MKB : True := trivial; have HA5 : Hid (Below W16.heap.size W16 w5) := ((HBB.out _ _).grown q2 (by first | omega | (simp <;> omega)) (fun g hg => by cases hg; exact Nat.le_refl _)); have HMB : Hid (∀ j u, (⟨mcl, msq, mkind, mkey, mval, mold, mcall, 0, ⟨0, []⟩⟩ : Lo).cells.toList[j]? = some u → w5.cell? ((⟨W16.heap.size + 1, 0, none⟩ : Addr).add j) = some u) := HKB.out _ _ q2; have HT5 : Hid (w5.cell? ⟨w.heap.size, 0, none⟩ = some (.int .i64 mcl) ∧ w5.cell? ⟨w.heap.size, 1, none⟩ = some (.int .i64 msq) ∧ w5.cell? ⟨w.heap.size, 2, none⟩ = some (.int .i64 mkind) ∧ w5.cell? ⟨w.heap.size, 3, none⟩ = some (.string ⟨mkey.toArray⟩) ∧ w5.cell? ⟨w.heap.size, 4, none⟩ = some (.string ⟨mval.toArray⟩) ∧ w5.cell? ⟨w.heap.size, 5, none⟩ = some (.string ⟨mold.toArray⟩) ∧ w5.cell? ⟨w.heap.size, 6, none⟩ = some (.int .i64 mcall) ∧ w5.cell? ⟨w.heap.size, 7, none⟩ = some (.int .i64 0) ∧ w5.cell? ⟨w.heap.size, 8, none⟩ = some (.int .i64 0) ∧ w5.cell? ⟨w.heap.size, 9, none⟩ = some (.string ⟨#[]⟩)) := HCW.out w5 HA5.out; obtain ⟨t0, t1, t2, t3, t4, t5, t6, t7, t8, t9⟩ := HT5.out; have hza := HA5.out.size; clear q2)
                        | (refine step_app tyO rfl (.tmp 196) (.tmp 197) rfl W16.heap.size (.slice (some ⟨W16.heap.size + 1, 0, none⟩) 0 0) 0 [] ⟨b, off, none⟩ h.length cap (opC h) (by simp [Act.eval]) (HOC2.out _) (by simp [Act.eval]) HOC.out (HN0.out _ (HBB.out _ _)) (opC_one h) (by omega) (by first | omega | (simp <;> omega)) ?_; intro v5 w5 q1 q2 q3; rw [Nat.zero_add, List.nil_append] at q1; obtain ⟨a5, c5, hv5, -, -⟩ := row_shape q1; subst hv5; have MKB : True := trivial; have HA5 : Hid (Below W16.heap.size W16 w5) := ((HBB.out _ _).grown q2 (by first | omega | (simp <;> omega)) (fun g hg => by cases hg; exact Nat.le_succ _)); have HMC : Hid (∀ j u, (⟨mcl, msq, mkind, mkey, mval, mold, mcall, 0, ⟨0, []⟩⟩ : Lo).cells.toList[j]? = some u → w5.cell? ((⟨W16.heap.size, 0, none⟩ : Addr).add j) = some u) := HKC.out _ _ q2; have HT5 : Hid (w5.cell? ⟨w.heap.size, 0, none⟩ = some (.int .i64 mcl) ∧ w5.cell? ⟨w.heap.size, 1, none⟩ = some (.int .i64 msq) ∧ w5.cell? ⟨w.heap.size, 2, none⟩ = some (.int .i64 mkind) ∧ w5.cell? ⟨w.heap.size, 3, none⟩ = some (.string ⟨mkey.toArray⟩) ∧ w5.cell? ⟨w.heap.size, 4, none⟩ = some (.string ⟨mval.toArray⟩) ∧ w5.cell? ⟨w.heap.size, 5, none⟩ = some (.string ⟨mold.toArray⟩) ∧ w5.cell? ⟨w.heap.size, 6, none⟩ = some (.int .i64 mcall) ∧ w5.cell? ⟨w.heap.size, 7, none⟩ = some (.int .i64 0) ∧ w5.cell? ⟨w.heap.size, 8, none⟩ = some (.int .i64 0) ∧ w5.cell? ⟨w.heap.size, 9, none⟩ = some (.string ⟨#[]⟩)) := HCW.out w5 HA5.out; obtain ⟨t0, t1, t2, t3, t4, t5, t6, t7, t8, t9⟩ := HT5.out; have hza := HA5.out.size; clear q2)
                        | (have hmb := HMB.out; clear hmb; refine step_app tyO rfl (.tmp 198) (.tmp 200) rfl W16.heap.size (.slice a5 h.length c5) h.length (opC h) ⟨W16.heap.size + 1, 0, none⟩ 1 1 (⟨mcl, msq, mkind, mkey, mval, mold, mcall, 0, ⟨0, []⟩⟩ : Lo).cells.toList (by simp [Act.eval]) q1 (by simp [Act.eval]) rfl HMB.out (lo_one _) (by omega) (by first | omega | (simp <;> omega)) ?_; intro v6 w6 q4 q5 q6; obtain ⟨a6', c6', hv6, -, -⟩ := row_shape q4; subst hv6; have HA6 : Hid (Below W16.heap.size W16 w6) := (HA5.out.grown q5 (by first | omega | (simp <;> omega)) (fun g hg => (World.ownsRow.lt q1 g hg).1)); have HC6 : Hid (Calls Try.prog 12 #[.slice a6' (h.length + 1) c6'] w6 fun e w' => e = .returned (.tuple #[.bool cb, .int .i64 vb]) ∧ Below w6.heap.size w6 w') := HCH.out w6 a6' c6' q4; have HT6 : Hid (w6.cell? ⟨w.heap.size, 0, none⟩ = some (.int .i64 mcl) ∧ w6.cell? ⟨w.heap.size, 1, none⟩ = some (.int .i64 msq) ∧ w6.cell? ⟨w.heap.size, 2, none⟩ = some (.int .i64 mkind) ∧ w6.cell? ⟨w.heap.size, 3, none⟩ = some (.string ⟨mkey.toArray⟩) ∧ w6.cell? ⟨w.heap.size, 4, none⟩ = some (.string ⟨mval.toArray⟩) ∧ w6.cell? ⟨w.heap.size, 5, none⟩ = some (.string ⟨mold.toArray⟩) ∧ w6.cell? ⟨w.heap.size, 6, none⟩ = some (.int .i64 mcall) ∧ w6.cell? ⟨w.heap.size, 7, none⟩ = some (.int .i64 0) ∧ w6.cell? ⟨w.heap.size, 8, none⟩ = some (.int .i64 0) ∧ w6.cell? ⟨w.heap.size, 9, none⟩ = some (.string ⟨#[]⟩)) := HCW.out w6 HA6.out; obtain ⟨s0, s1, s2, s3, s4, s5, s6, s7, s8, s9⟩ := HT6.out; have hzb := HA6.out.size; clear q4 q5 q6)
                        | (have hmb := HMC.out; clear hmb; refine step_app tyO rfl (.tmp 198) (.tmp 200) rfl W16.heap.size (.slice a5 h.length c5) h.length (opC h) ⟨W16.heap.size, 0, none⟩ 1 1 (⟨mcl, msq, mkind, mkey, mval, mold, mcall, 0, ⟨0, []⟩⟩ : Lo).cells.toList (by simp [Act.eval]) q1 (by simp [Act.eval]) rfl HMC.out (lo_one _) (by omega) (by first | omega | (simp <;> omega)) ?_; intro v6 w6 q4 q5 q6; obtain ⟨a6', c6', hv6, -, -⟩ := row_shape q4; subst hv6; have HA6 : Hid (Below W16.heap.size W16 w6) := (HA5.out.grown q5 (by first | omega | (simp <;> omega)) (fun g hg => (World.ownsRow.lt q1 g hg).1)); have HC6 : Hid (Calls Try.prog 12 #[.slice a6' (h.length + 1) c6'] w6 fun e w' => e = .returned (.tuple #[.bool cb, .int .i64 vb]) ∧ Below w6.heap.size w6 w') := HCH.out w6 a6' c6' q4; have HT6 : Hid (w6.cell? ⟨w.heap.size, 0, none⟩ = some (.int .i64 mcl) ∧ w6.cell? ⟨w.heap.size, 1, none⟩ = some (.int .i64 msq) ∧ w6.cell? ⟨w.heap.size, 2, none⟩ = some (.int .i64 mkind) ∧ w6.cell? ⟨w.heap.size, 3, none⟩ = some (.string ⟨mkey.toArray⟩) ∧ w6.cell? ⟨w.heap.size, 4, none⟩ = some (.string ⟨mval.toArray⟩) ∧ w6.cell? ⟨w.heap.size, 5, none⟩ = some (.string ⟨mold.toArray⟩) ∧ w6.cell? ⟨w.heap.size, 6, none⟩ = some (.int .i64 mcall) ∧ w6.cell? ⟨w.heap.size, 7, none⟩ = some (.int .i64 0) ∧ w6.cell? ⟨w.heap.size, 8, none⟩ = some (.int .i64 0) ∧ w6.cell? ⟨w.heap.size, 9, none⟩ = some (.string ⟨#[]⟩)) := HCW.out w6 HA6.out; obtain ⟨s0, s1, s2, s3, s4, s5, s6, s7, s8, s9⟩ := HT6.out; have hzb := HA6.out.size; clear q4 q5 q6)
                        | ((fail_if_success (have mkb := MKB)); refine step_app tyO rfl (.tmp 198) (.tmp 200) rfl W16.heap.size (.slice a5 h.length c5) h.length (opC h) ⟨w5.heap.size, 0, none⟩ 1 1 (⟨mcl, msq, mkind, mkey, mval, mold, mcall, 0, ⟨0, []⟩⟩ : Lo).cells.toList (by simp [Act.eval]) (World.ownsRow.alloc q1 _) (by simp [Act.eval]) rfl (news_at w5 (⟨mcl, msq, mkind, mkey, mval, mold, mcall, 0, ⟨0, []⟩⟩ : Lo).cells 35) (lo_one _) (by omega) (by first | omega | (simp <;> omega)) ?_; intro v6 w6 q4 q5 q6; obtain ⟨a6', c6', hv6, -, -⟩ := row_shape q4; subst hv6; have HA6 : Hid (Below W16.heap.size W16 w6) := ((HA5.out.alloc hza _).grown q5 (by first | omega | (simp <;> omega)) (fun g hg => (World.ownsRow.lt q1 g hg).1)); have HC6 : Hid (Calls Try.prog 12 #[.slice a6' (h.length + 1) c6'] w6 fun e w' => e = .returned (.tuple #[.bool cb, .int .i64 vb]) ∧ Below w6.heap.size w6 w') := HCH.out w6 a6' c6' q4; have HT6 : Hid (w6.cell? ⟨w.heap.size, 0, none⟩ = some (.int .i64 mcl) ∧ w6.cell? ⟨w.heap.size, 1, none⟩ = some (.int .i64 msq) ∧ w6.cell? ⟨w.heap.size, 2, none⟩ = some (.int .i64 mkind) ∧ w6.cell? ⟨w.heap.size, 3, none⟩ = some (.string ⟨mkey.toArray⟩) ∧ w6.cell? ⟨w.heap.size, 4, none⟩ = some (.string ⟨mval.toArray⟩) ∧ w6.cell? ⟨w.heap.size, 5, none⟩ = some (.string ⟨mold.toArray⟩) ∧ w6.cell? ⟨w.heap.size, 6, none⟩ = some (.int .i64 mcall) ∧ w6.cell? ⟨w.heap.size, 7, none⟩ = some (.int .i64 0) ∧ w6.cell? ⟨w.heap.size, 8, none⟩ = some (.int .i64 0) ∧ w6.cell? ⟨w.heap.size, 9, none⟩ = some (.string ⟨#[]⟩)) := HCW.out w6 HA6.out; obtain ⟨s0, s1, s2, s3, s4, s5, s6, s7, s8, s9⟩ := HT6.out; have hzb := HA6.out.size; clear q4 q5 q6)
                        | (go_simp; go_wp2_with (go_at_call 12; refine HC6.out.mono ?_; rintro e w8 ⟨rfl, hB8⟩; have HA8 : Hid (Below W16.heap.size W16 w8) := (HA6.out.trans (hB8.mono hzb)); have HT8 : Hid (w8.cell? ⟨w.heap.size, 0, none⟩ = some (.int .i64 mcl) ∧ w8.cell? ⟨w.heap.size, 1, none⟩ = some (.int .i64 msq) ∧ w8.cell? ⟨w.heap.size, 2, none⟩ = some (.int .i64 mkind) ∧ w8.cell? ⟨w.heap.size, 3, none⟩ = some (.string ⟨mkey.toArray⟩) ∧ w8.cell? ⟨w.heap.size, 4, none⟩ = some (.string ⟨mval.toArray⟩) ∧ w8.cell? ⟨w.heap.size, 5, none⟩ = some (.string ⟨mold.toArray⟩) ∧ w8.cell? ⟨w.heap.size, 6, none⟩ = some (.int .i64 mcall) ∧ w8.cell? ⟨w.heap.size, 7, none⟩ = some (.int .i64 0) ∧ w8.cell? ⟨w.heap.size, 8, none⟩ = some (.int .i64 0) ∧ w8.cell? ⟨w.heap.size, 9, none⟩ = some (.string ⟨#[]⟩)) := HCW.out w8 HA8.out; obtain ⟨r0, r1', r2', r3', r4, r5, r6, r7, r8, r9⟩ := HT8.out; clear hB8))
                        | fail)
                    all_goals (
                      have HWE : Hid (Below w.heap.size w w8) := HB16.out.trans (HA8.out.mono hz16)
                      by_cases hv2 : vb = 0
                      · have := HCV.out hv2
                        subst this
                        go_wp2_with (go_at_call 19; refine (HN _ _).mono ?_; rintro e wn ⟨rfl, hwn⟩; subst wn)
                        go_ret
                        exact ⟨rfl, HWE.out⟩
                      · have hvb : (vb != 0) = true := by simpa using hv2
                        clear hv2
                        cases cb
                        all_goals (
                          go_wp2_with (go_at_call 19; refine (HN _ _).mono ?_; rintro e wn ⟨rfl, hwn⟩; subst wn)
                          go_ret
                          exact ⟨rfl, HWE.out⟩))
end Go.Proofs.Ytbcnpdpdflkanaa
