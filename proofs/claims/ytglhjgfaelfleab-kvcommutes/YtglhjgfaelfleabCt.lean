/-
  KvCommutes: commands of unlike clients on unlike keys change places.
-/
import Derived.Test.YtglhjgfaelfleabPc
import Derived.Test.YtglhjgfaelfleabCy
namespace Go.Proofs.Ytglhjgfaelfleab
open Go.RowKit
set_option linter.unusedVariables false

/-- A command that lies by itself. -/
def Cb (W : World) (r : Nat) (c : Cm) : Prop := W.heap[r]? = some (.cells #[.int .i64 c.op, .int .i64 c.cl, .int .i64 c.sq, .string ⟨c.key.toArray⟩, .string ⟨c.val.toArray⟩, .string ⟨c.old.toArray⟩] 34)
theorem Cb.cells {W : World} {r : Nat} {c : Cm} (h : Cb W r c) : CmAt W r 0 c := by
  refine ⟨?_, ?_, ?_, ?_, ?_, ?_⟩ <;> (simp only [World.cell?, show W.heap[r]? = _ from h]; rfl)
theorem Cb.below {W W' : World} {r : Nat} {c : Cm} (h : Cb W r c) (hB : Below W.heap.size W W') : Cb W' r c := (hB.block r (Array.getElem?_eq_some_iff.1 h).1).trans h
theorem Cb.kpt {mp ms : Nat} {W W' : World} {r : Nat} {c : Cm} (h : Cb W r c) (hk : Kpt mp ms W W') : Cb W' r c := hk.2 r _ (by simp) h
theorem Cb.alloc {W : World} {r : Nat} {c : Cm} (h : Cb W r c) (o : Obj) : Cb (W.alloc o) r c := h.below ((Below.refl _ _).alloc (Nat.le_refl _) _)

set_option maxRecDepth 100000 in
set_option maxHeartbeats 4000000 in
theorem does_kpt {w W : World} {b mp ms : Nat} {K : KV} (h : Up w W b mp ms K) (a : Option Addr) (cap : Nat) (cs : List Cm) (hc : ∀ V, Kpt mp ms W V → Cs W.heap.size V a cs) (hl : cs.length ≤ 1000) :
    Calls Try.prog 13 #[.pointer (some ⟨b, 0, none⟩), .slice a cs.length cap] W fun e w' => ∃ v, e = .returned v ∧ Up w w' b mp ms (runF K cs) ∧ Ro RR W.heap.size w' v (repF K cs) ∧ Kpt mp ms W w' ∧ Out (Mx mp ms) W w' := by
  have HU : Hid (Up w W b mp ms K) := h
  have HC : Hid (∀ V, Kpt mp ms W V → Cs W.heap.size V a cs) := hc
  have HWL : Hid (w.heap.size ≤ W.heap.size) := h.bel.size
  have HLM : Hid (w.heap.size ≤ mp ∧ w.heap.size ≤ ms) := h.lm
  clear h hc
  go_enter Try.func13, Try.ntmps13
  go_wp2_with fail
  go_loopw [5, 6] (fun vv iv wr => ∃ k : Nat, iv = .int .i64 (k : Int) ∧ k ≤ cs.length ∧ Up w wr b mp ms (runF K (cs.take k)) ∧ Ro RR W.heap.size wr vv (repF K (cs.take k)) ∧ Kpt mp ms W wr ∧ Out (Mx mp ms) W wr) (fun _ iv _ => cs.length - (intOf iv).toNat)
  case atStart => exact ⟨0, rfl, Nat.zero_le _, HU.out, Ro.nil _ _ _, ⟨Nat.le_refl _, fun _ _ _ h => h⟩, Out.refl _ _⟩
  case round =>
    obtain ⟨k, rfl, hk, hU, hR, hK, hO⟩ := hrel
    obtain ⟨ra, rc, rfl, -, -⟩ := hR.shape
    by_cases hlt : k < cs.length
    · have hlt' : (k : Int) < (cs.length : Int) := by omega
      have hi0 : (0 : Int) ≤ (k : Int) := by omega
      obtain ⟨g, off, hea, hb, hcell, -⟩ := (HC.out wr hK).at hlt
      subst hea
      have HRK : Hid (runF K (cs.take (k + 1)) = (doF (runF K (cs.take k)) cs[k]).1) := runF_take hlt
      have HPK : Hid (repF K (cs.take (k + 1)) = repF K (cs.take k) ++ [(doF (runF K (cs.take k)) cs[k]).2]) := repF_take hlt
      have CD := up_do hU cs[k]
      generalize cs[k] = x at *
      obtain ⟨op, cl, sq, ky, vl, od⟩ := x
      obtain ⟨c0, c1, c2, c3, c4, c5⟩ := hcell
      dsimp only at c0 c1 c2 c3 c4 c5 CD
      generalize doF (runF K (cs.take k)) ⟨op, cl, sq, ky, vl, od⟩ = dd at *
      obtain ⟨K', rc', rv'⟩ := dd
      dsimp only at CD
      generalize Cm.ck ⟨op, cl, sq, ky, vl, od⟩ = ee at *
      have HD : Hid (Calls _ _ _ _ _) := CD
      have hrl : (repF K (cs.take k)).length = k := by rw [repF_len]; simp; omega
      have HRR : Hid (Ro RR W.heap.size wr (.slice ra (repF K (cs.take k)).length rc) (repF K (cs.take k))) := hR
      have HKK : Hid (Kpt mp ms W wr) := hK
      have HOO : Hid (Out (Mx mp ms) W wr) := hO
      have HUU : Hid (Up w wr b mp ms (runF K (cs.take k))) := hU
      have hrl2 : (repF K (cs.take k)).length ≤ 1000 := by omega
      have HRL : Hid ((repF K (cs.take k)).length = k) := hrl
      clear CD hR hK hO hU hrl
      go_wp2_with fail
      refine HD.out.mono ?_
      rintro e w3 ⟨rfl, hU3, hk3, hO3⟩
      have HU3 : Hid (Up w w3 b mp ms K') := hU3
      have HR3 : Hid (Ro RR W.heap.size w3 (.slice ra (repF K (cs.take k)).length rc) (repF K (cs.take k))) := HRR.out.kpt hk3
      have HK3 : Hid (Kpt mp ms W w3) := HKK.out.trans hk3
      have HO3 : Hid (Out (Mx mp ms) W w3) := HOO.out.trans hO3 (fun _ hi _ => hi)
      have HW3 : Hid (W.heap.size ≤ w3.heap.size) := HK3.out.1
      clear hU3 hk3 hO3 HD c0 c1 c2 c3 c4 c5
      go_wp2_with (at_builtin; refine wpList_append_ro RR rfl _ _ rfl W.heap.size _ (repF K (cs.take k)) ⟨rc', rv'⟩ rfl (HR3.out.alloc _) rfl (by simp) (by omega) (by have := HW3.out; simp; omega) ?_; intro v' w5 hro5 hg5 hob5; obtain ⟨a5, cp5, rfl, -, -⟩ := hro5.shape; have HRO5 : Hid (Ro RR W.heap.size w5 _ (repF K (cs.take k) ++ [⟨rc', rv'⟩])) := hro5; have HG5 : Hid (World.grownBy _ w5 _) := hg5; clear hro5 hg5 hob5)
      go_roundw
      case rel =>
        have hB5 : Out (fun i => W.heap.size ≤ i ∧ i < w3.heap.size + 2) w3 w5 := by
          have b1 : Below w3.heap.size w3 ((w3.alloc (.cells #[.int .i64 rc', .string ⟨rv'.toArray⟩] 30)).alloc (.cells #[.int .i64 rc', .string ⟨rv'.toArray⟩] 30)) := Below.alloc' (Below.alloc' (Below.refl _ _) _) _
          exact (Out.of_below b1).trans (Out.grown (X := fun i => W.heap.size ≤ i ∧ i < w3.heap.size + 2) HG5.out (fun j e => ⟨(HR3.out.lt e).1, by have := (HR3.out.lt e).2; omega⟩)) (fun i hi _ => hi)
        have hz := HU.out.st.lt
        refine ⟨k + 1, by go_num, by omega, ⟨?_, ?_, HU3.out.lm⟩, ?_, ⟨Nat.le_trans HW3.out hB5.size, fun i x hx hi => ?_⟩, HO3.out.trans hB5 (fun i hi hl => by omega)⟩
        · rw [HRK.out]; exact HU3.out.st.out hB5 (by omega) (by omega) (by omega)
        · exact HU3.out.bel.trans ⟨hB5.os, hB5.tape, hB5.output, hB5.size, fun i hi => hB5.block i (by have := HU3.out.bel.size; omega) (fun e => by have := HWL.out; omega)⟩
        · rw [HPK.out]; simpa using HRO5.out
        · have h1 := (Array.getElem?_eq_some_iff.1 hi).1
          exact (hB5.block i (by have := HW3.out; omega) (by omega)).trans (HK3.out.2 i x hx hi)
      case measure => simp [intOf]; omega
    · have hlt' : decide ((k : Int) < (cs.length : Int)) = false := by simp; omega
      obtain rfl : k = cs.length := by omega
      simp only [List.take_length] at *
      go_wp2
      go_ret
      exact ⟨_, rfl, hU, hR, hK, hO⟩


/-- Two commands in a row. -/
def P2 (W : World) (g : Nat) (x y : Cm) : Prop := W.heap[g]? = some (.cells #[.int .i64 x.op, .int .i64 x.cl, .int .i64 x.sq, .string ⟨x.key.toArray⟩, .string ⟨x.val.toArray⟩, .string ⟨x.old.toArray⟩, .int .i64 y.op, .int .i64 y.cl, .int .i64 y.sq, .string ⟨y.key.toArray⟩, .string ⟨y.val.toArray⟩, .string ⟨y.old.toArray⟩] 34)
theorem P2.cs {W : World} {g N : Nat} {x y : Cm} (h : P2 W g x y) (hx : CmIn x) (hy : CmIn y) (hg : g < N) : Cs N W (some ⟨g, 0, none⟩) [x, y] := by
  refine ⟨by simp [maxLen], by simp; exact ⟨hx, hy⟩, .inr ⟨g, 0, rfl, hg, fun i hi => ?_⟩⟩
  match i, hi with
  | 0, _ => refine ⟨?_, ?_, ?_, ?_, ?_, ?_⟩ <;> (simp only [World.cell?, show W.heap[g]? = _ from h]; rfl)
  | 1, _ => refine ⟨?_, ?_, ?_, ?_, ?_, ?_⟩ <;> (simp only [World.cell?, show W.heap[g]? = _ from h]; rfl)
theorem P2.kpt {mp ms : Nat} {W W' : World} {r : Nat} {x y : Cm} (h : P2 W r x y) (hk : Kpt mp ms W W') : P2 W' r x y := hk.2 r _ (by simp) h
theorem P2.lt {W : World} {r : Nat} {x y : Cm} (h : P2 W r x y) : r < W.heap.size := (Array.getElem?_eq_some_iff.1 h).1
theorem P2.below {W W' : World} {r : Nat} {x y : Cm} (h : P2 W r x y) (hB : Below W.heap.size W W') : P2 W' r x y := (hB.block r h.lt).trans h

theorem box_two (w : World) (o o' : Obj) : ((w.alloc o).alloc o').heap[w.heap.size + 1]? = some o' := by
  have h : (w.alloc o).heap.size = w.heap.size + 1 := by simp
  have := heap_alloc_new (w.alloc o) o'
  rw [h] at this
  exact this

set_option maxRecDepth 100000 in
set_option maxHeartbeats 8000000 in
theorem commutes_walk (w : World) (sl : Option Addr) (cap : Nat) (cs : List Cm) (hc : Cs w.heap.size w sl cs) (a b : Cm) (ha : CmIn a) (hb : CmIn b) :
    Calls Try.prog 4 #[.slice sl cs.length cap, .agg #[.int .i64 a.op, .int .i64 a.cl, .int .i64 a.sq, .string ⟨a.key.toArray⟩, .string ⟨a.val.toArray⟩, .string ⟨a.old.toArray⟩], .agg #[.int .i64 b.op, .int .i64 b.cl, .int .i64 b.sq, .string ⟨b.key.toArray⟩, .string ⟨b.val.toArray⟩, .string ⟨b.old.toArray⟩]] w fun e w' => e = .returned (.bool true) ∧ Below w.heap.size w w' := by
  have HC : Hid (∀ W, Below w.heap.size w W → Cs w.heap.size W sl cs) := fun W hB => hc.below hB
  have hl : cs.length ≤ maxLen := hc.1
  unfold maxLen at hl
  clear hc
  obtain ⟨W1, HW1⟩ : ∃ W1, Hid ((w.alloc (.cells #[.int .i64 a.op, .int .i64 a.cl, .int .i64 a.sq, .string ⟨a.key.toArray⟩, .string ⟨a.val.toArray⟩, .string ⟨a.old.toArray⟩] 34)).alloc (.cells #[.int .i64 b.op, .int .i64 b.cl, .int .i64 b.sq, .string ⟨b.key.toArray⟩, .string ⟨b.val.toArray⟩, .string ⟨b.old.toArray⟩] 34) = W1) := ⟨_, rfl⟩
  have HB1 : Hid (Below w.heap.size w W1) := by rw [← HW1.out]; exact Below.alloc' (Below.alloc' (Below.refl _ _) _) _
  have HA1 : Hid (Cb W1 w.heap.size a) := by rw [← HW1.out]; exact Cb.alloc (heap_alloc_new w _) _
  have HX1 : Hid (Cb W1 (w.heap.size + 1) b) := by rw [← HW1.out]; exact box_two w _ _
  have HHA : Hid (CmIn a) := ha
  have HHB : Hid (CmIn b) := hb
  clear ha hb
  obtain ⟨aop, acl, asq, aky, avl, aod⟩ := a
  obtain ⟨bop, bcl, bsq, bky, bvl, bod⟩ := b
  dsimp only at HW1 ⊢
  go_enter Try.func4, Try.ntmps4
  go_wp2_with fail
  rw [HW1.out]
  refine (first_any W1).mono ?_
  rintro e W2 ⟨rfl, hB2⟩
  have HB2 : Hid (Below w.heap.size w W2) := HB1.out.trans (hB2.mono HB1.out.size)
  have HA2 : Hid (Cb W2 w.heap.size ⟨aop, acl, asq, aky, avl, aod⟩) := HA1.out.below hB2
  have HX2 : Hid (Cb W2 (w.heap.size + 1) ⟨bop, bcl, bsq, bky, bvl, bod⟩) := HX1.out.below hB2
  clear hB2 HW1 HB1 HA1 HX1
  have HF := few_any sl cap cs w.heap.size W2 (HC.out W2 HB2.out)
  go_wp2_with fail
  refine HF.mono ?_
  rintro e W3 ⟨t, rfl, ht, q3, rfl⟩
  clear HF
  cases t with
  | false =>
    go_wp2
    go_ret
    exact ⟨rfl, Below.drewN' HB2.out _⟩
  | true =>
    obtain ⟨W3, HW3⟩ : ∃ W3, Hid (W2.drewN q3 = W3) := ⟨_, rfl⟩
    have HB3 : Hid (Below w.heap.size w W3) := by rw [← HW3.out]; exact Below.drewN' HB2.out _
    have HA3 : Hid (Cb W3 w.heap.size ⟨aop, acl, asq, aky, avl, aod⟩) := by rw [← HW3.out]; exact HA2.out.below (Below.drewN' (Below.refl _ _) _)
    have HX3 : Hid (Cb W3 (w.heap.size + 1) ⟨bop, bcl, bsq, bky, bvl, bod⟩) := by rw [← HW3.out]; exact HX2.out.below (Below.drewN' (Below.refl _ _) _)
    rw [HW3.out]
    clear HW3 HB2 HA2 HX2 ht
    obtain ⟨a0, a1, a2, a3, a4, a5⟩ := HA3.out.cells
    obtain ⟨b0, b1, b2, b3, b4, b5⟩ := HX3.out.cells
    dsimp only at a0 a1 a2 a3 a4 a5 b0 b1 b2 b3 b4 b5
    have lw : w.heap.size + 1 < W3.heap.size := (Array.getElem?_eq_some_iff.1 HX3.out).1
    have lw0 : w.heap.size < W3.heap.size := by omega
    obtain ⟨W4, HW4⟩ : ∃ W4, Hid (W3.alloc (.cells #[.int .i64 aop, .int .i64 acl, .int .i64 asq, .string ⟨aky.toArray⟩, .string ⟨avl.toArray⟩, .string ⟨aod.toArray⟩, .int .i64 bop, .int .i64 bcl, .int .i64 bsq, .string ⟨bky.toArray⟩, .string ⟨bvl.toArray⟩, .string ⟨bod.toArray⟩] 34) = W4) := ⟨_, rfl⟩
    have HB4 : Hid (Below w.heap.size w W4) := by rw [← HW4.out]; exact Below.alloc' HB3.out _
    have HA4 : Hid (Cb W4 w.heap.size ⟨aop, acl, asq, aky, avl, aod⟩) := by rw [← HW4.out]; exact HA3.out.alloc _
    have HX4 : Hid (Cb W4 (w.heap.size + 1) ⟨bop, bcl, bsq, bky, bvl, bod⟩) := by rw [← HW4.out]; exact HX3.out.alloc _
    have HP4 : Hid (P2 W4 W3.heap.size ⟨aop, acl, asq, aky, avl, aod⟩ ⟨bop, bcl, bsq, bky, bvl, bod⟩) := by rw [← HW4.out]; exact heap_alloc_new W3 _
    have CF := few_any (some ⟨W3.heap.size, 0, none⟩) 2 [⟨aop, acl, asq, aky, avl, aod⟩, ⟨bop, bcl, bsq, bky, bvl, bod⟩] W4.heap.size W4 (HP4.out.cs HHA.out HHB.out HP4.out.lt)
    have HF : Hid (Calls _ _ _ _ _) := CF
    clear CF
    go_wp2_with fail
    rw [HW4.out]
    refine HF.out.mono ?_
    rintro e W5 ⟨t, rfl, -, q5, rfl⟩
    clear HF HW4 HP4 HB3 HA3 HX3 a0 a1 a2 a3 a4 a5 b0 b1 b2 b3 b4 b5 lw lw0
    cases t with
    | false =>
      go_wp2
      go_ret
      exact ⟨rfl, Below.drewN' HB4.out _⟩
    | true =>
      obtain ⟨W5, HW5⟩ : ∃ W5, Hid (W4.drewN q5 = W5) := ⟨_, rfl⟩
      have HB5 : Hid (Below w.heap.size w W5) := by rw [← HW5.out]; exact Below.drewN' HB4.out _
      have HA5 : Hid (Cb W5 w.heap.size ⟨aop, acl, asq, aky, avl, aod⟩) := by rw [← HW5.out]; exact HA4.out.below (Below.drewN' (Below.refl _ _) _)
      have HX5 : Hid (Cb W5 (w.heap.size + 1) ⟨bop, bcl, bsq, bky, bvl, bod⟩) := by rw [← HW5.out]; exact HX4.out.below (Below.drewN' (Below.refl _ _) _)
      rw [HW5.out]
      clear HW5 HB4 HA4 HX4
      obtain ⟨a0, a1, a2, a3, a4, a5⟩ := HA5.out.cells
      obtain ⟨b0, b1, b2, b3, b4, b5⟩ := HX5.out.cells
      dsimp only at a0 a1 a2 a3 a4 a5 b0 b1 b2 b3 b4 b5
      have lw : w.heap.size + 1 < W5.heap.size := (Array.getElem?_eq_some_iff.1 HX5.out).1
      have lw0 : w.heap.size < W5.heap.size := by omega
      by_cases hsm : cs.length ≤ 200
      case neg =>
        have hgt : (200 : Int) < (cs.length : Int) := by omega
        go_wp2
        go_ret
        exact ⟨rfl, HB5.out⟩
      have hgt : decide ((200 : Int) < (cs.length : Int)) = false := by simp; omega
      by_cases hcl : acl = bcl
      case pos =>
        subst hcl
        go_wp2
        go_ret
        exact ⟨rfl, HB5.out⟩
      have hcl' : (acl == bcl) = false := by simpa using hcl
      by_cases hky : aky = bky
      case pos =>
        subst hky
        go_wp2
        go_ret
        exact ⟨rfl, HB5.out⟩
      have hky' : (aky == bky) = false := by simpa using hky
      go_wp2_with fail
      refine (new_any W5).mono ?_
      clear a0 a1 a2 a3 a4 a5 b0 b1 b2 b3 b4 b5 lw lw0 hl
      rintro e W6 ⟨rfl, h6, hB6, hz6⟩
      have HU6 : Hid (Up w W6 (W5.heap.size + 2) W5.heap.size (W5.heap.size + 1) ⟨[], []⟩) := ⟨h6, HB5.out.trans (hB6.mono HB5.out.size), HB5.out.size, by have := HB5.out.size; omega⟩
      have HA6 : Hid (Cb W6 w.heap.size ⟨aop, acl, asq, aky, avl, aod⟩) := HA5.out.below hB6
      have HX6 : Hid (Cb W6 (w.heap.size + 1) ⟨bop, bcl, bsq, bky, bvl, bod⟩) := HX5.out.below hB6
      generalize W5.heap.size + 2 = p1 at *
      generalize W5.heap.size + 1 = s1 at *
      generalize W5.heap.size = m1 at *
      clear h6 hB6 hz6 HB5 HA5 HX5
      have CD := does_any HU6.out sl cap cs (HC.out _ HU6.out.bel) (Nat.le_refl _) (by omega)
      obtain ⟨K, HKK⟩ : ∃ K, Hid (runF ⟨[], []⟩ cs = K) := ⟨_, rfl⟩
      rw [HKK.out] at CD
      have HD : Hid (Calls _ _ _ _ _) := CD
      clear CD HKK
      go_wp2_with fail
      refine HD.out.mono ?_
      rintro e W7 ⟨v7, rfl, hU7, hR7, hk7, hO7⟩
      have HU7 : Hid (Up w W7 p1 m1 s1 K) := hU7
      have HA7 : Hid (Cb W7 w.heap.size ⟨aop, acl, asq, aky, avl, aod⟩) := HA6.out.kpt hk7
      have HX7 : Hid (Cb W7 (w.heap.size + 1) ⟨bop, bcl, bsq, bky, bvl, bod⟩) := HX6.out.kpt hk7
      obtain ⟨va, vc, rfl, -, -⟩ := hR7.shape
      clear hU7 hR7 hk7 hO7 HD HU6 HA6 HX6
      generalize (repF ⟨[], []⟩ cs).length = nrep
      have CL := len_any HU7.out.st
      have hp128 : K.ps.length ≤ 128 := HU7.out.st.ok.few
      have hs32 : K.ss.length ≤ 32 := HU7.out.st.ok.fewS
      go_wp2_with fail
      refine CL.mono ?_
      rintro e W8 ⟨rfl, rfl⟩
      clear CL
      by_cases hp : K.ps.length ≤ 126
      case neg =>
        have hp' : (126 : Int) < (K.ps.length : Int) := by omega
        go_wp2
        go_ret
        exact ⟨rfl, HU7.out.bel⟩
      have hp' : decide ((126 : Int) < (K.ps.length : Int)) = false := by simp; omega
      have CS := sessions_any HU7.out.st
      go_wp2_with fail
      refine CS.mono ?_
      rintro e W9 ⟨v9, rfl, hR9, hB9⟩
      obtain ⟨sa, sc, rfl, -, -⟩ := hR9.shape
      have HU9 : Hid (Up w W9 p1 m1 s1 K) := HU7.out.below hB9
      have HA9 : Hid (Cb W9 w.heap.size ⟨aop, acl, asq, aky, avl, aod⟩) := HA7.out.below hB9
      have HX9 : Hid (Cb W9 (w.heap.size + 1) ⟨bop, bcl, bsq, bky, bvl, bod⟩) := HX7.out.below hB9
      clear hR9 hB9 CS HU7 HA7 HX7
      by_cases hs : K.ss.length ≤ 30
      case neg =>
        have hs' : (30 : Int) < (K.ss.length : Int) := by omega
        go_wp2
        go_ret
        exact ⟨rfl, HU9.out.bel⟩
      have hs' : decide ((30 : Int) < (K.ss.length : Int)) = false := by simp; omega
      have CC := copy_any HU9.out.st
      have HCC : Hid (Calls _ _ _ _ _) := CC
      clear CC
      go_wp2_with fail
      refine HCC.out.mono ?_
      rintro e Wa ⟨p2, m2, s2, rfl, h2a, hBa, l2, l2'⟩
      have HTa : Hid (Two w Wa p1 m1 s1 K p2 m2 s2 K) := ⟨HU9.out.below hBa, ⟨h2a, HU9.out.bel.trans (hBa.mono HU9.out.bel.size), by have := HU9.out.bel.size; omega⟩, by have := HU9.out.st.lt; omega⟩
      have HAa : Hid (Cb Wa w.heap.size ⟨aop, acl, asq, aky, avl, aod⟩) := HA9.out.below hBa
      have HXa : Hid (Cb Wa (w.heap.size + 1) ⟨bop, bcl, bsq, bky, bvl, bod⟩) := HX9.out.below hBa
      clear h2a hBa l2 l2' HCC HU9 HA9 HX9 HC
      obtain ⟨a0, a1, a2, a3, a4, a5⟩ := HAa.out.cells
      obtain ⟨b0, b1, b2, b3, b4, b5⟩ := HXa.out.cells
      dsimp only at a0 a1 a2 a3 a4 a5 b0 b1 b2 b3 b4 b5
      have lw : w.heap.size + 1 < Wa.heap.size := (Array.getElem?_eq_some_iff.1 HXa.out).1
      have lw0 : w.heap.size < Wa.heap.size := by omega
      obtain ⟨Wb, HWb⟩ : ∃ Wb, Hid (Wa.alloc (.cells #[.int .i64 aop, .int .i64 acl, .int .i64 asq, .string ⟨aky.toArray⟩, .string ⟨avl.toArray⟩, .string ⟨aod.toArray⟩, .int .i64 bop, .int .i64 bcl, .int .i64 bsq, .string ⟨bky.toArray⟩, .string ⟨bvl.toArray⟩, .string ⟨bod.toArray⟩] 34) = Wb) := ⟨_, rfl⟩
      have HTb : Hid (Two w Wb p1 m1 s1 K p2 m2 s2 K) := by rw [← HWb.out]; exact HTa.out.alloc _
      have HAb : Hid (Cb Wb w.heap.size ⟨aop, acl, asq, aky, avl, aod⟩) := by rw [← HWb.out]; exact HAa.out.alloc _
      have HXb : Hid (Cb Wb (w.heap.size + 1) ⟨bop, bcl, bsq, bky, bvl, bod⟩) := by rw [← HWb.out]; exact HXa.out.alloc _
      have HPb : Hid (P2 Wb Wa.heap.size ⟨aop, acl, asq, aky, avl, aod⟩ ⟨bop, bcl, bsq, bky, bvl, bod⟩) := by rw [← HWb.out]; exact heap_alloc_new Wa _
      have CD := does_kpt HTb.out.u1 (some ⟨Wa.heap.size, 0, none⟩) 2 [⟨aop, acl, asq, aky, avl, aod⟩, ⟨bop, bcl, bsq, bky, bvl, bod⟩] (fun V hk => (HPb.out.kpt hk).cs HHA.out HHB.out HPb.out.lt) (by simp)
      have HD : Hid (Calls _ _ _ _ _) := CD
      clear CD
      go_wp2_with fail
      rw [HWb.out]
      refine HD.out.mono ?_
      rintro e Wc ⟨vx, rfl, hUc, hRc, hkc, hOc⟩
      have HTc : Hid (Two w Wc p1 m1 s1 (runF K [⟨aop, acl, asq, aky, avl, aod⟩, ⟨bop, bcl, bsq, bky, bvl, bod⟩]) p2 m2 s2 K) := HTb.out.do1 hUc hOc
      have HAc : Hid (Cb Wc w.heap.size ⟨aop, acl, asq, aky, avl, aod⟩) := HAb.out.kpt hkc
      have HXc : Hid (Cb Wc (w.heap.size + 1) ⟨bop, bcl, bsq, bky, bvl, bod⟩) := HXb.out.kpt hkc
      have HRc : Hid (Ro RR 0 Wc vx (repF K [⟨aop, acl, asq, aky, avl, aod⟩, ⟨bop, bcl, bsq, bky, bvl, bod⟩])) := hRc.base (Nat.zero_le _)
      clear hUc hRc hkc hOc HD HTb HAb HXb HPb HWb HTa HAa HXa a0 a1 a2 a3 a4 a5 b0 b1 b2 b3 b4 b5 lw lw0
      obtain ⟨a0, a1, a2, a3, a4, a5⟩ := HAc.out.cells
      obtain ⟨b0, b1, b2, b3, b4, b5⟩ := HXc.out.cells
      dsimp only at a0 a1 a2 a3 a4 a5 b0 b1 b2 b3 b4 b5
      have lw : w.heap.size + 1 < Wc.heap.size := (Array.getElem?_eq_some_iff.1 HXc.out).1
      have lw0 : w.heap.size < Wc.heap.size := by omega
      obtain ⟨Wd, HWd⟩ : ∃ Wd, Hid (Wc.alloc (.cells #[.int .i64 bop, .int .i64 bcl, .int .i64 bsq, .string ⟨bky.toArray⟩, .string ⟨bvl.toArray⟩, .string ⟨bod.toArray⟩, .int .i64 aop, .int .i64 acl, .int .i64 asq, .string ⟨aky.toArray⟩, .string ⟨avl.toArray⟩, .string ⟨aod.toArray⟩] 34) = Wd) := ⟨_, rfl⟩
      have HTd : Hid (Two w Wd p1 m1 s1 (runF K [⟨aop, acl, asq, aky, avl, aod⟩, ⟨bop, bcl, bsq, bky, bvl, bod⟩]) p2 m2 s2 K) := by rw [← HWd.out]; exact HTc.out.alloc _
      have HRd : Hid (Ro RR 0 Wd vx (repF K [⟨aop, acl, asq, aky, avl, aod⟩, ⟨bop, bcl, bsq, bky, bvl, bod⟩])) := by rw [← HWd.out]; exact HRc.out.alloc _
      have HPd : Hid (P2 Wd Wc.heap.size ⟨bop, bcl, bsq, bky, bvl, bod⟩ ⟨aop, acl, asq, aky, avl, aod⟩) := by rw [← HWd.out]; exact heap_alloc_new Wc _
      have CD := does_kpt HTd.out.u2 (some ⟨Wc.heap.size, 0, none⟩) 2 [⟨bop, bcl, bsq, bky, bvl, bod⟩, ⟨aop, acl, asq, aky, avl, aod⟩] (fun V hk => (HPd.out.kpt hk).cs HHB.out HHA.out HPd.out.lt) (by simp)
      have HD : Hid (Calls _ _ _ _ _) := CD
      clear CD
      go_wp2_with fail
      rw [HWd.out]
      refine HD.out.mono ?_
      rintro e We ⟨vy, rfl, hUe, hRe, hke, hOe⟩
      have HTe : Hid (Two w We p1 m1 s1 (runF K [⟨aop, acl, asq, aky, avl, aod⟩, ⟨bop, bcl, bsq, bky, bvl, bod⟩]) p2 m2 s2 (runF K [⟨bop, bcl, bsq, bky, bvl, bod⟩, ⟨aop, acl, asq, aky, avl, aod⟩])) := HTd.out.do2 hUe hOe
      have HRx : Hid (Ro RR 0 We vx (repF K [⟨aop, acl, asq, aky, avl, aod⟩, ⟨bop, bcl, bsq, bky, bvl, bod⟩])) := HRd.out.kpt hke
      have HRy : Hid (Ro RR 0 We vy (repF K [⟨bop, bcl, bsq, bky, bvl, bod⟩, ⟨aop, acl, asq, aky, avl, aod⟩])) := hRe.base (Nat.zero_le _)
      clear hUe hRe hke hOe HD HTd HRd HPd HWd HTc HAc HXc HRc a0 a1 a2 a3 a4 a5 b0 b1 b2 b3 b4 b5 lw lw0
      obtain ⟨eK, ⟨xc, xv⟩, ⟨yc, yv⟩, ex, ey⟩ := commute (a := ⟨aop, acl, asq, aky, avl, aod⟩) (b := ⟨bop, bcl, bsq, bky, bvl, bod⟩) hcl hky hp hs HTe.out.u1.st.risP HTe.out.u1.st.risS HTe.out.u2.st.risP HTe.out.u2.st.risS
      rw [ex] at HRx
      rw [ey] at HRy
      rw [← eK] at HTe
      clear ex ey eK hcl hky hp hs HHA HHB hcl' hky' hp' hs'
      generalize runF K [⟨aop, acl, asq, aky, avl, aod⟩, ⟨bop, bcl, bsq, bky, bvl, bod⟩] = K2 at *
      obtain ⟨xa, xcp, rfl, -, -⟩ := HRx.out.shape
      obtain ⟨ya, ycp, rfl, -, -⟩ := HRy.out.shape
      obtain ⟨xg, xc', hv, -, hxl, -, hcx⟩ := HRx.out.at0 (by simp)
      cases hv
      obtain ⟨yg, yc', hv, -, hyl, -, hcy⟩ := HRy.out.at0 (by simp)
      cases hv
      have HQ : Hid (∀ V, Below We.heap.size We V → V.cell? ⟨xg, 0, none⟩ = some (.int .i64 xc) ∧ V.cell? ⟨xg, 1, none⟩ = some (.string ⟨xv.toArray⟩) ∧ V.cell? ⟨xg, 2, none⟩ = some (.int .i64 yc) ∧ V.cell? ⟨xg, 3, none⟩ = some (.string ⟨yv.toArray⟩) ∧ V.cell? ⟨yg, 0, none⟩ = some (.int .i64 yc) ∧ V.cell? ⟨yg, 1, none⟩ = some (.string ⟨yv.toArray⟩) ∧ V.cell? ⟨yg, 2, none⟩ = some (.int .i64 xc) ∧ V.cell? ⟨yg, 3, none⟩ = some (.string ⟨xv.toArray⟩)) := fun V hB =>
        have x0 := hcx 0 0 (by simp) (by decide)
        have x1 := hcx 0 1 (by simp) (by decide)
        have x2 := hcx 1 0 (by simp) (by decide)
        have x3 := hcx 1 1 (by simp) (by decide)
        have y0 := hcy 0 0 (by simp) (by decide)
        have y1 := hcy 0 1 (by simp) (by decide)
        have y2 := hcy 1 0 (by simp) (by decide)
        have y3 := hcy 1 1 (by simp) (by decide)
        ⟨(hB.cell (p := ⟨xg, 0, none⟩) hxl).trans x0, (hB.cell (p := ⟨xg, 1, none⟩) hxl).trans x1, (hB.cell (p := ⟨xg, 2, none⟩) hxl).trans x2, (hB.cell (p := ⟨xg, 3, none⟩) hxl).trans x3, (hB.cell (p := ⟨yg, 0, none⟩) hyl).trans y0, (hB.cell (p := ⟨yg, 1, none⟩) hyl).trans y1, (hB.cell (p := ⟨yg, 2, none⟩) hyl).trans y2, (hB.cell (p := ⟨yg, 3, none⟩) hyl).trans y3⟩
      have HS1 : Hid (∀ V, Below We.heap.size We V → Calls Try.prog 9 #[.pointer (some ⟨p1, 0, none⟩)] V fun e w' => ∃ sa sc, e = .returned (.slice sa (snapB K2).length sc) ∧ Ow 0 w' (.slice sa (snapB K2).length sc) (snapB K2) ∧ Below V.heap.size V w' ∧ Below We.heap.size We w' ∧ w'.cell? ⟨xg, 0, none⟩ = some (.int .i64 xc) ∧ w'.cell? ⟨xg, 1, none⟩ = some (.string ⟨xv.toArray⟩) ∧ w'.cell? ⟨xg, 2, none⟩ = some (.int .i64 yc) ∧ w'.cell? ⟨xg, 3, none⟩ = some (.string ⟨yv.toArray⟩) ∧ w'.cell? ⟨yg, 0, none⟩ = some (.int .i64 yc) ∧ w'.cell? ⟨yg, 1, none⟩ = some (.string ⟨yv.toArray⟩) ∧ w'.cell? ⟨yg, 2, none⟩ = some (.int .i64 xc) ∧ w'.cell? ⟨yg, 3, none⟩ = some (.string ⟨xv.toArray⟩)) := fun V hB => (snapshot_any (HTe.out.u1.below hB).st).mono fun e w' ⟨v, h1, h2, h3⟩ => by
        obtain ⟨ta, tc, rfl, -, -⟩ := h2.shape
        exact ⟨ta, tc, h1, h2.base (Nat.zero_le _), h3, hB.trans (h3.mono hB.size), HQ.out w' (hB.trans (h3.mono hB.size))⟩
      have HS2 : Hid (∀ V, Below We.heap.size We V → Calls Try.prog 9 #[.pointer (some ⟨p2, 0, none⟩)] V fun e w' => ∃ sa sc, e = .returned (.slice sa (snapB K2).length sc) ∧ Ow 0 w' (.slice sa (snapB K2).length sc) (snapB K2) ∧ Below V.heap.size V w' ∧ Below We.heap.size We w' ∧ w'.cell? ⟨xg, 0, none⟩ = some (.int .i64 xc) ∧ w'.cell? ⟨xg, 1, none⟩ = some (.string ⟨xv.toArray⟩) ∧ w'.cell? ⟨xg, 2, none⟩ = some (.int .i64 yc) ∧ w'.cell? ⟨xg, 3, none⟩ = some (.string ⟨yv.toArray⟩) ∧ w'.cell? ⟨yg, 0, none⟩ = some (.int .i64 yc) ∧ w'.cell? ⟨yg, 1, none⟩ = some (.string ⟨yv.toArray⟩) ∧ w'.cell? ⟨yg, 2, none⟩ = some (.int .i64 xc) ∧ w'.cell? ⟨yg, 3, none⟩ = some (.string ⟨xv.toArray⟩)) := fun V hB => (snapshot_any (HTe.out.u2.below hB).st).mono fun e w' ⟨v, h1, h2, h3⟩ => by
        obtain ⟨ta, tc, rfl, -, -⟩ := h2.shape
        exact ⟨ta, tc, h1, h2.base (Nat.zero_le _), h3, hB.trans (h3.mono hB.size), HQ.out w' (hB.trans (h3.mono hB.size))⟩
      have HBE : Hid (Below w.heap.size w We) := HTe.out.u1.bel
      obtain ⟨z0, z1, z2, z3, z4, z5, z6, z7⟩ := HQ.out We (Below.refl _ _)
      clear hcx hcy HRx HRy HTe
      go_wp2_with fail
      go_region_held3 (fun V => V.cell? ⟨xg, 0, none⟩ = some (.int .i64 xc) ∧ V.cell? ⟨xg, 1, none⟩ = some (.string ⟨xv.toArray⟩) ∧ V.cell? ⟨xg, 2, none⟩ = some (.int .i64 yc) ∧ V.cell? ⟨xg, 3, none⟩ = some (.string ⟨yv.toArray⟩) ∧ V.cell? ⟨yg, 0, none⟩ = some (.int .i64 yc) ∧ V.cell? ⟨yg, 1, none⟩ = some (.string ⟨yv.toArray⟩) ∧ V.cell? ⟨yg, 2, none⟩ = some (.int .i64 xc) ∧ V.cell? ⟨yg, 3, none⟩ = some (.string ⟨xv.toArray⟩)) (go_keep)
        (first
          | (go_at_call 9; refine (HS1.out We.drew (Below.drew' (Below.refl _ _))).mono ?_; rintro e V1 ⟨ta, tc, rfl, o1, D1, B1, q0, q1, q2, q3, q4, q5, q6, q7⟩; have HO1 : Hid (Ow 0 V1 (.slice ta (snapB K2).length tc) (snapB K2)) := o1; have HB1 : Hid (Below We.heap.size We V1) := B1; clear o1 D1 B1 HS1)
          | (go_at_call 9; refine (HS2.out V1 HB1.out).mono ?_; rintro e V2 ⟨ua, uc, rfl, o2, D2, B2, r0, r1, r2, r3, r4, r5, r6, r7⟩; have CM := same_any V2.heap.size _ _ _ _ V2 ((HO1.out.below D2 (Nat.le_refl _)).sl (Nat.le_refl _)) (o2.sl (Nat.le_refl _)); have HM : Hid (Calls _ _ _ _ _) := CM; have HB2 : Hid (Below We.heap.size We V2) := B2; clear o2 D2 B2 CM HS2)
          | (go_at_call 11; refine HM.out.mono ?_; rintro e V3 ⟨rfl, q3, rfl⟩; obtain ⟨s0, s1, s2, s3, s4, s5, s6, s7⟩ := HQ.out (V2.drewN q3) (Below.drewN' HB2.out q3); clear HM)
          | fail)
      all_goals
        go_wp2
        go_ret
        exact ⟨by simp, HBE.out.trans ((Below.drewN' HB2.out _).mono HBE.out.size)⟩
end Go.Proofs.Ytglhjgfaelfleab
