/-
  Commands one behind the other, and what they got; two stores side by side.
-/
import Derived.Test.YtglhjgfaelfleaaPq
namespace Go.Proofs.Ytglhjgfaelfleaa
open Go.RowKit
set_option linter.unusedVariables false

def encR (r : Rp) : List Value := [.int .i64 r.code, .string ⟨r.val.toArray⟩]
def RR : RK Rp := ⟨33, 51, 2, 24, .agg #[.int .i64 0, .string ⟨[].toArray⟩], encR, fun _ => rfl, fun x v hv => by simp [encR] at hv; rcases hv with rfl | rfl <;> rfl, by decide, Try.underlying51, by kernel_rfl, rfl, by decide⟩

theorem Ro.kpt {α : Type} {R : RK α} {mp ms N : Nat} {W W' : World} {v : Value} {xs : List α} (h : Ro R N W v xs) (hk : Kpt mp ms W W') : Ro R N W' v xs := by
  refine ⟨h.1, ?_⟩
  rcases h.2 with h3 | ⟨g, cap, cur, rfl, hg, hb, r⟩
  · exact .inl h3
  · exact .inr ⟨g, cap, cur, rfl, hg, hk.2 g _ (by simp) hb, r⟩
theorem Ow.kpt {mp ms N : Nat} {W W' : World} {v : Value} {l : Bs} (h : Ow N W v l) (hk : Kpt mp ms W W') : Ow N W' v l := by
  refine ⟨h.1, ?_⟩
  rcases h.2 with h3 | ⟨g, cap, cur, rfl, hg, hb, r⟩
  · exact .inl h3
  · exact .inr ⟨g, cap, cur, rfl, hg, hk.2 g _ (by simp) hb, r⟩
theorem Kpt.below {mp ms : Nat} {W W' : World} (h : Below W.heap.size W W') : Kpt mp ms W W' := ⟨h.size, fun i x _ hi => (h.block i (Array.getElem?_eq_some_iff.1 hi).1).trans hi⟩
theorem Kpt.trans {mp ms mp' ms' : Nat} {A B C : World} (h : Kpt mp ms A B) (k : Kpt mp' ms' B C) : Kpt mp ms A C := ⟨Nat.le_trans h.1 k.1, fun i x hx hi => k.2 i x hx (h.2 i x hx hi)⟩
theorem Cs.kpt {mp ms N : Nat} {W W' : World} {a : Option Addr} {cs : List Cm} {b : Nat} {K : KV} (h : Cs N W a cs) (hO : Out (Mx mp ms) W W') (hN : N ≤ mp ∧ N ≤ ms) (hW : N ≤ W.heap.size) : Cs N W' a cs :=
  h.below ⟨hO.os, hO.tape, hO.output, hO.size, fun i hi => hO.block i (by omega) (fun e => by rcases e with e | e <;> omega)⟩

set_option maxRecDepth 100000 in
set_option maxHeartbeats 4000000 in
theorem does_any {w W : World} {b mp ms N : Nat} {K : KV} (h : Up w W b mp ms K) (a : Option Addr) (cap : Nat) (cs : List Cm) (hc : Cs N W a cs) (hN : N ≤ w.heap.size) (hl : cs.length ≤ 1000) :
    Calls Try.prog 21 #[.pointer (some ⟨b, 0, none⟩), .slice a cs.length cap] W fun e w' => ∃ v, e = .returned v ∧ Up w w' b mp ms (runF K cs) ∧ Ro RR W.heap.size w' v (repF K cs) ∧ Kpt mp ms W w' ∧ Out (Mx mp ms) W w' := by
  have HU : Hid (Up w W b mp ms K) := h
  have HC : Hid (Cs N W a cs) := hc
  have HN : Hid (N ≤ w.heap.size) := hN
  have HWL : Hid (w.heap.size ≤ W.heap.size) := h.bel.size
  have HLM : Hid (w.heap.size ≤ mp ∧ w.heap.size ≤ ms) := h.lm
  clear h hc hN
  go_enter Try.func21, Try.ntmps21
  go_wp2_with fail
  go_loopw [5, 6] (fun vv iv wr => ∃ k : Nat, iv = .int .i64 (k : Int) ∧ k ≤ cs.length ∧ Up w wr b mp ms (runF K (cs.take k)) ∧ Ro RR W.heap.size wr vv (repF K (cs.take k)) ∧ Kpt mp ms W wr ∧ Out (Mx mp ms) W wr) (fun _ iv _ => cs.length - (intOf iv).toNat)
  case atStart => exact ⟨0, rfl, Nat.zero_le _, HU.out, Ro.nil _ _ _, ⟨Nat.le_refl _, fun _ _ _ h => h⟩, Out.refl _ _⟩
  case round =>
    obtain ⟨k, rfl, hk, hU, hR, hK, hO⟩ := hrel
    obtain ⟨ra, rc, rfl, -, -⟩ := hR.shape
    by_cases hlt : k < cs.length
    · have hlt' : (k : Int) < (cs.length : Int) := by omega
      have hi0 : (0 : Int) ≤ (k : Int) := by omega
      obtain ⟨g, off, hea, hb, hcell, -⟩ := (HC.out.kpt (b := b) (K := K) hO ⟨by have := HN.out; have := HLM.out; omega, by have := HN.out; have := HLM.out; omega⟩ (by have := HN.out; have := HWL.out; omega)).at hlt
      subst hea
      have HRK : Hid (runF K (cs.take (k + 1)) = (doF (runF K (cs.take k)) cs[k]).1) := runF_take hlt
      have HPK : Hid (repF K (cs.take (k + 1)) = repF K (cs.take k) ++ [(doF (runF K (cs.take k)) cs[k]).2]) := repF_take hlt
      have CD := up_do hU cs[k]
      generalize cs[k] = x at *
      obtain ⟨op, cl, sq, ky, vl, od⟩ := x
      obtain ⟨c0, c1, c2, c3, c4, c5⟩ := hcell
      dsimp only at c0 c1 c2 c3 c4 c5 CD
      generalize doF (runF K (cs.take k)) ⟨op, cl, sq, ky, vl, od⟩ = dd at *
      obtain ⟨K', rc', rv'⟩ := dd
      dsimp only at CD
      generalize Cm.ck ⟨op, cl, sq, ky, vl, od⟩ = ee at *
      have HD : Hid (Calls _ _ _ _ _) := CD
      have hrl : (repF K (cs.take k)).length = k := by rw [repF_len]; simp; omega
      have HRR : Hid (Ro RR W.heap.size wr (.slice ra (repF K (cs.take k)).length rc) (repF K (cs.take k))) := hR
      have HKK : Hid (Kpt mp ms W wr) := hK
      have HOO : Hid (Out (Mx mp ms) W wr) := hO
      have HUU : Hid (Up w wr b mp ms (runF K (cs.take k))) := hU
      have hrl2 : (repF K (cs.take k)).length ≤ 1000 := by omega
      have HRL : Hid ((repF K (cs.take k)).length = k) := hrl
      clear CD hR hK hO hU hrl
      go_wp2_with fail
      refine HD.out.mono ?_
      rintro e w3 ⟨rfl, hU3, hk3, hO3⟩
      have HU3 : Hid (Up w w3 b mp ms K') := hU3
      have HR3 : Hid (Ro RR W.heap.size w3 (.slice ra (repF K (cs.take k)).length rc) (repF K (cs.take k))) := HRR.out.kpt hk3
      have HK3 : Hid (Kpt mp ms W w3) := HKK.out.trans hk3
      have HO3 : Hid (Out (Mx mp ms) W w3) := HOO.out.trans hO3 (fun _ hi _ => hi)
      have HW3 : Hid (W.heap.size ≤ w3.heap.size) := HK3.out.1
      clear hU3 hk3 hO3 HD c0 c1 c2 c3 c4 c5
      go_wp2_with (at_builtin; refine wpList_append_ro RR rfl _ _ rfl W.heap.size _ (repF K (cs.take k)) ⟨rc', rv'⟩ rfl (HR3.out.alloc _) rfl (by simp) (by omega) (by have := HW3.out; simp; omega) ?_; intro v' w5 hro5 hg5 hob5; obtain ⟨a5, cp5, rfl, -, -⟩ := hro5.shape; have HRO5 : Hid (Ro RR W.heap.size w5 _ (repF K (cs.take k) ++ [⟨rc', rv'⟩])) := hro5; have HG5 : Hid (World.grownBy _ w5 _) := hg5; clear hro5 hg5 hob5)
      go_roundw
      case rel =>
        have hB5 : Out (fun i => W.heap.size ≤ i ∧ i < w3.heap.size + 2) w3 w5 := by
          have b1 : Below w3.heap.size w3 ((w3.alloc (.cells #[.int .i64 rc', .string ⟨rv'.toArray⟩] 33)).alloc (.cells #[.int .i64 rc', .string ⟨rv'.toArray⟩] 33)) := Below.alloc' (Below.alloc' (Below.refl _ _) _) _
          exact (Out.of_below b1).trans (Out.grown (X := fun i => W.heap.size ≤ i ∧ i < w3.heap.size + 2) HG5.out (fun j e => ⟨(HR3.out.lt e).1, by have := (HR3.out.lt e).2; omega⟩)) (fun i hi _ => hi)
        have hz := HU.out.st.lt
        refine ⟨k + 1, by go_num, by omega, ⟨?_, ?_, HU3.out.lm⟩, ?_, ⟨Nat.le_trans HW3.out hB5.size, fun i x hx hi => ?_⟩, HO3.out.trans hB5 (fun i hi hl => by omega)⟩
        · rw [HRK.out]; exact HU3.out.st.out hB5 (by omega) (by omega) (by omega)
        · exact HU3.out.bel.trans ⟨hB5.os, hB5.tape, hB5.output, hB5.size, fun i hi => hB5.block i (by have := HU3.out.bel.size; omega) (fun e => by have := HWL.out; omega)⟩
        · rw [HPK.out]; simpa using HRO5.out
        · have h1 := (Array.getElem?_eq_some_iff.1 hi).1
          exact (hB5.block i (by have := HW3.out; omega) (by omega)).trans (HK3.out.2 i x hx hi)
      case measure => simp [intOf]; omega
    · have hlt' : decide ((k : Int) < (cs.length : Int)) = false := by simp; omega
      obtain rfl : k = cs.length := by omega
      simp only [List.take_length] at *
      go_wp2
      go_ret
      exact ⟨_, rfl, hU, hR, hK, hO⟩

/-- Two stores, one beside the other. -/
structure Two (w W : World) (b1 p1 s1 : Nat) (K1 : KV) (b2 p2 s2 : Nat) (K2 : KV) : Prop where
  u1 : Up w W b1 p1 s1 K1
  u2 : Up w W b2 p2 s2 K2
  ap : p1 ≠ p2 ∧ p1 ≠ s2 ∧ s1 ≠ p2 ∧ s1 ≠ s2
theorem St.far {W W' : World} {b mp ms p s : Nat} {K K' : KV} {b' : Nat} (h : St W b mp ms K) (h' : St W b' p s K') (hO : Out (Mx p s) W W') (ap : p ≠ mp ∧ p ≠ ms ∧ s ≠ mp ∧ s ≠ ms) : St W' b mp ms K := by
  refine h.out hO (fun e => ?_) (fun e => ?_) (fun e => ?_)
  · obtain ⟨es, cl, hb, _⟩ := h'.hp
    obtain ⟨es', cl', hb', _⟩ := h'.hs
    have := h.hd
    rcases e with rfl | rfl
    · rw [hb] at this; cases this
    · rw [hb'] at this; cases this
  · rcases e with e | e <;> omega
  · rcases e with e | e <;> omega
theorem Two.do1 {w W W' : World} {b1 p1 s1 b2 p2 s2 : Nat} {K1 K2 K1' : KV} (h : Two w W b1 p1 s1 K1 b2 p2 s2 K2) (hU : Up w W' b1 p1 s1 K1') (hO : Out (Mx p1 s1) W W') : Two w W' b1 p1 s1 K1' b2 p2 s2 K2 :=
  ⟨hU, ⟨h.u2.st.far h.u1.st hO h.ap, hU.bel, h.u2.lm⟩, h.ap⟩
theorem Two.do2 {w W W' : World} {b1 p1 s1 b2 p2 s2 : Nat} {K1 K2 K2' : KV} (h : Two w W b1 p1 s1 K1 b2 p2 s2 K2) (hU : Up w W' b2 p2 s2 K2') (hO : Out (Mx p2 s2) W W') : Two w W' b1 p1 s1 K1 b2 p2 s2 K2' :=
  ⟨⟨h.u1.st.far h.u2.st hO ⟨fun e => h.ap.1 e.symm, fun e => h.ap.2.2.1 e.symm, fun e => h.ap.2.1 e.symm, fun e => h.ap.2.2.2 e.symm⟩, hU.bel, h.u1.lm⟩, hU, h.ap⟩
theorem Two.below {w W W' : World} {b1 p1 s1 b2 p2 s2 : Nat} {K1 K2 : KV} (h : Two w W b1 p1 s1 K1 b2 p2 s2 K2) (hB : Below W.heap.size W W') : Two w W' b1 p1 s1 K1 b2 p2 s2 K2 := ⟨h.u1.below hB, h.u2.below hB, h.ap⟩
theorem Two.alloc {w W : World} {b1 p1 s1 b2 p2 s2 : Nat} {K1 K2 : KV} (h : Two w W b1 p1 s1 K1 b2 p2 s2 K2) (o : Obj) : Two w (W.alloc o) b1 p1 s1 K1 b2 p2 s2 K2 := h.below ((Below.refl _ _).alloc (Nat.le_refl _) _)
/-- A second store. -/
theorem two_new {w W : World} {b1 p1 s1 : Nat} {K1 : KV} (h : Up w W b1 p1 s1 K1) : Calls Try.prog 10 #[] W fun e W' => ∃ b2 p2 s2, e = .returned (.pointer (some ⟨b2, 0, none⟩)) ∧ Two w W' b1 p1 s1 K1 b2 p2 s2 ⟨[], []⟩ ∧ Below W.heap.size W W' :=
  (new_any W).mono fun e W' ⟨h1, h2, h3, h4⟩ => ⟨_, _, _, h1, ⟨h.below h3, ⟨h2, h.bel.trans (h3.mono h.bel.size), by have := h.bel.size; omega, by have := h.bel.size; omega⟩, by have := h.st.lt; omega⟩, h3⟩
end Go.Proofs.Ytglhjgfaelfleaa
