/-
  Whether a client's session has a greater number.
-/
import Derived.Test.YtglhjgfaelfleaaDw
namespace Go.Proofs.Ytglhjgfaelfleaa
open Go.RowKit
set_option linter.unusedVariables false

/-- A command that lies by itself. -/
def Cb (W : World) (r : Nat) (c : Cm) : Prop := W.heap[r]? = some (.cells #[.int .i64 c.op, .int .i64 c.cl, .int .i64 c.sq, .string ⟨c.key.toArray⟩, .string ⟨c.val.toArray⟩, .string ⟨c.old.toArray⟩] 38)
theorem Cb.cells {W : World} {r : Nat} {c : Cm} (h : Cb W r c) : W.cell? ⟨r, 1, none⟩ = some (.int .i64 c.cl) ∧ W.cell? ⟨r, 2, none⟩ = some (.int .i64 c.sq) := by
  constructor <;> (simp only [World.cell?, show W.heap[r]? = _ from h]; rfl)
theorem Cb.below {W W' : World} {r : Nat} {c : Cm} (h : Cb W r c) (hB : Below W.heap.size W W') : Cb W' r c := (hB.block r (Array.getElem?_eq_some_iff.1 h).1).trans h
theorem Cb.kpt {mp ms : Nat} {W W' : World} {r : Nat} {c : Cm} (h : Cb W r c) (hk : Kpt mp ms W W') : Cb W' r c := hk.2 r _ (by simp) h

/-- Behind a greater number of its client a command is old. -/
theorem old_code {K : KV} (hr : Ris kS K.ss) {c : Cm} (hck : c.ck = 0) {s : Se} (hs : s ∈ K.ss) (h1 : s.cl = c.cl) (h2 : c.sq < s.sq) : (doF K c).2.code = 4 := by
  have hl : lookS c.cl K.ss = some s := by
    cases hq : lookS c.cl K.ss with
    | none =>
      have := lookK_none hq s hs
      simp [kS, Lit.sameKey, h1] at this
    | some y =>
      obtain ⟨hy1, hy2⟩ := lookK_some hq
      have e := WideAt.sameKey_eq hy2
      have : y = s := key_inj (ris_neS hr) hy1 hs (by rw [e]; simp [kS, h1])
      rw [this]
  have hse : settled K.ss c.cl c.sq = some ⟨4, []⟩ := by unfold settled; rw [hl]; dsimp only; rw [if_neg (by omega), if_neg (by omega)]
  unfold doF
  rw [if_neg (by simpa using hck), hse]

/-- higher's answer. -/
def HgR (W : World) (K : KV) (c : Cm) (e : Ending) (w' : World) : Prop := ∃ t, e = .returned (.bool t) ∧ (t = true → ∃ s ∈ K.ss, s.cl = c.cl ∧ c.sq < s.sq) ∧ Below W.heap.size W w'

set_option maxRecDepth 100000 in
set_option maxHeartbeats 4000000 in
theorem higher_any (W : World) (c : Cm) (a : Option Addr) (cap : Nat) (cs : List Cm) (hc : Cs W.heap.size W a cs) (hl : cs.length ≤ 1000) :
    Calls Try.prog 20 #[.agg #[.int .i64 c.op, .int .i64 c.cl, .int .i64 c.sq, .string ⟨c.key.toArray⟩, .string ⟨c.val.toArray⟩, .string ⟨c.old.toArray⟩], .slice a cs.length cap] W fun e w' => HgR W (runF ⟨[], []⟩ cs) c e w' := by
  have HC : Hid (∀ V, Below W.heap.size W V → Cs W.heap.size V a cs) := fun V hB => hc.below hB
  clear hc
  obtain ⟨op, cl, sq, ky, vl, od⟩ := c
  dsimp only
  obtain ⟨K, HKK⟩ : ∃ K, Hid (runF ⟨[], []⟩ cs = K) := ⟨_, rfl⟩
  rw [HKK.out]
  obtain ⟨W1, HW1⟩ : ∃ W1, Hid (W.alloc (.cells #[.int .i64 op, .int .i64 cl, .int .i64 sq, .string ⟨ky.toArray⟩, .string ⟨vl.toArray⟩, .string ⟨od.toArray⟩] 38) = W1) := ⟨_, rfl⟩
  have HB1 : Hid (Below W.heap.size W W1) := by rw [← HW1.out]; exact (Below.refl _ _).alloc (Nat.le_refl _) _
  have HX1 : Hid (Cb W1 W.heap.size ⟨op, cl, sq, ky, vl, od⟩) := by rw [← HW1.out]; exact heap_alloc_new W _
  go_enter Try.func20, Try.ntmps20
  go_wp2_with fail
  rw [HW1.out]
  refine (new_any W1).mono ?_
  rintro e W2 ⟨rfl, h2, hB2, hz2⟩
  have HU2 : Hid (Up W W2 (W1.heap.size + 2) W1.heap.size (W1.heap.size + 1) ⟨[], []⟩) := ⟨h2, HB1.out.trans (hB2.mono HB1.out.size), HB1.out.size, by have := HB1.out.size; omega⟩
  have HX2 : Hid (Cb W2 W.heap.size ⟨op, cl, sq, ky, vl, od⟩) := HX1.out.below hB2
  generalize W1.heap.size + 2 = b at *
  generalize W1.heap.size + 1 = ms at *
  generalize W1.heap.size = mp at *
  clear h2 hB2 hz2 HX1 HB1 HW1
  have CD := does_any HU2.out a cap cs (HC.out _ HU2.out.bel) (Nat.le_refl _) hl
  have HD : Hid (Calls _ _ _ _ _) := CD
  clear CD
  go_wp2_with fail
  refine HD.out.mono ?_
  rintro e W3 ⟨v3, rfl, hU3, hR3, hk3, hO3⟩
  rw [HKK.out] at hU3
  have HU3 : Hid (Up W W3 b mp ms K) := hU3
  have HX3 : Hid (Cb W3 W.heap.size ⟨op, cl, sq, ky, vl, od⟩) := HX2.out.kpt hk3
  obtain ⟨va, vc, rfl, -, -⟩ := hR3.shape
  generalize repF ⟨[], []⟩ cs = rps at *
  clear hU3 hR3 hk3 hO3 HD HU2 HX2
  have CS := sessions_any HU3.out.st
  go_wp2_with fail
  refine CS.mono ?_
  rintro e W4 ⟨v4, rfl, hR4, hB4⟩
  obtain ⟨sa, sc, rfl, -, -⟩ := hR4.shape
  have HR4 : Hid (Ro RS 0 W4 (.slice sa K.ss.length sc) K.ss) := hR4.base (Nat.zero_le _)
  have HX4 : Hid (Cb W4 W.heap.size ⟨op, cl, sq, ky, vl, od⟩) := HX3.out.below hB4
  have HB4 : Hid (Below W.heap.size W W4) := HU3.out.bel.trans (hB4.mono HU3.out.bel.size)
  have hfs : K.ss.length ≤ 32 := HU3.out.st.ok.fewS
  clear hR4 hB4 CS HU3 HX3 HC
  go_wp2_with fail
  go_loopw [7] (fun kv wq => ∃ (k : Nat), kv = .int .i64 (k : Int) ∧ k ≤ K.ss.length ∧ Ro RS 0 wq (.slice sa K.ss.length sc) K.ss ∧ Cb wq W.heap.size ⟨op, cl, sq, ky, vl, od⟩ ∧ Below W.heap.size W wq) (fun kv _ => K.ss.length - (intOf kv).toNat)
  case atStart => exact ⟨0, rfl, Nat.zero_le _, HR4.out, HX4.out, HB4.out⟩
  case round =>
    obtain ⟨k, rfl, hk, hR, hX, hB⟩ := hrel
    clear HR4 HX4 HB4
    by_cases hkl : k < K.ss.length
    · have hkl' : (k : Int) < (K.ss.length : Int) := by omega
      have hk0 : (0 : Int) ≤ (k : Int) := by omega
      obtain ⟨sg, sc', hv, -, hsl, -, hcell⟩ := hR.at0 (by omega)
      cases hv
      have d0 := hcell k 0 hkl (by decide)
      have d1 := hcell k 1 hkl (by decide)
      have HMEM : Hid (K.ss[k] ∈ K.ss) := List.getElem_mem hkl
      obtain ⟨c1, c2⟩ := hX.cells
      generalize K.ss[k] = s at *
      obtain ⟨scl, ssq, srp⟩ := s
      have d0' : wr.cell? ⟨sg, k * 4, none⟩ = some (.int .i64 scl) := d0
      have d1' : wr.cell? ⟨sg, k * 4 + 1, none⟩ = some (.int .i64 ssq) := d1
      dsimp only at c1 c2
      have lW : W.heap.size < wr.heap.size := (Array.getElem?_eq_some_iff.1 hX).1
      have HR : Hid (Ro RS 0 wr _ K.ss) := hR
      have HX : Hid (Cb wr W.heap.size ⟨op, cl, sq, ky, vl, od⟩) := hX
      have HB : Hid (Below W.heap.size W wr) := hB
      clear hcell d0 d1 hR hX hB
      by_cases he : scl = cl
      · subst he
        by_cases hg : sq < ssq
        · go_wp2_with fail
          go_quiet (fail)
          go_wp2
          go_ret
          exact ⟨true, rfl, fun _ => ⟨_, HMEM.out, rfl, hg⟩, Below.drewN' HB.out _⟩
        · have hg' : decide (sq < ssq) = false := by simp; omega
          go_wp2_with fail
          go_quiet (fail)
          go_wp2
          go_roundw
          case rel => exact ⟨k + 1, by go_num, by omega, HR.out.below (Below.drewN' (Below.refl _ _) _) (Nat.le_refl _), HX.out.below (Below.drewN' (Below.refl _ _) _), Below.drewN' HB.out _⟩
          case measure => simp [intOf]; omega
      · have he' : (scl == cl) = false := by simpa using he
        go_wp2_with fail
        go_quiet (fail)
        go_wp2
        go_roundw
        case rel => exact ⟨k + 1, by go_num, by omega, HR.out.below (Below.drewN' (Below.refl _ _) _) (Nat.le_refl _), HX.out.below (Below.drewN' (Below.refl _ _) _), Below.drewN' HB.out _⟩
        case measure => simp [intOf]; omega
    · have hkl' : decide ((k : Int) < (K.ss.length : Int)) = false := by simp; omega
      go_wp2
      go_ret
      exact ⟨false, rfl, (fun h => by cases h), hB⟩
end Go.Proofs.Ytglhjgfaelfleaa
