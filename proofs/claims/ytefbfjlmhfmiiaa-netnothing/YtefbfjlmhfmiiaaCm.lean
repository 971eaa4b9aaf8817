/-
  comes: was a mail sent, but for one bit, if it is spoilt?
-/
import Derived.Test.YtefbfjlmhfmiiaaLs
import Derived.Laws.BitsAllLaws
namespace Go.Proofs.Ytefbfjlmhfmiiaa
open Go.RowKit
set_option linter.unusedVariables false

/-- How many bits of a number are set. -/
def pcF : Nat → Nat → Nat
  | 0, _ => 0
  | f + 1, n => n % 2 + pcF f (n / 2)
theorem pcF_zero : ∀ f, pcF f 0 = 0
  | 0 => rfl
  | f + 1 => by simp [pcF, pcF_zero f]
def xorAt (a b : List UInt8) (k : Nat) : Nat := (a.getD k 0).toNat ^^^ (b.getD k 0).toNat
/-- In how many bits two lists differ, up to a place. -/
def unl (a b : List UInt8) : Nat → Nat
  | 0 => 0
  | k + 1 => unl a b k + pcF 8 (xorAt a b k)
theorem pcF_le : ∀ f n, pcF f n ≤ f
  | 0, _ => Nat.le_refl _
  | f + 1, n => by have := pcF_le f (n / 2); simp only [pcF]; omega
theorem unl_le (a b : List UInt8) : ∀ k, unl a b k ≤ 8 * k
  | 0 => Nat.le_refl _
  | k + 1 => by have := unl_le a b k; have := pcF_le 8 (xorAt a b k); simp only [unl]; omega
theorem unl_same (a : List UInt8) : ∀ k, unl a a k = 0
  | 0 => rfl
  | k + 1 => by simp only [unl, unl_same a k, xorAt, Nat.xor_self, pcF_zero]
theorem pc_pow : ∀ R : Fin 8, pcF 8 (2 ^ R.val) = 1 := by decide
theorem unl_flip (a : List UInt8) (q : Nat) (hq : q / 8 < a.length) : ∀ k, unl a (flipD a q) k = if q / 8 < k then 1 else 0
  | 0 => by simp [unl]
  | k + 1 => by
    have ih := unl_flip a q hq k
    have hx : xorAt a (flipD a q) k = if k = q / 8 then 2 ^ (q % 8) else 0 := by
      unfold xorAt flipD
      by_cases hk : k = q / 8
      · rw [if_pos hk, hk]
        have hr : q % 8 < 8 := Nat.mod_lt _ (by decide)
        rw [List.getD_eq_getElem?_getD (l := a.set _ _), List.getElem?_set_self hq, Option.getD_some]
        unfold flipB
        have h2 := xor_lt ⟨q % 8, hr⟩ ⟨(a.getD (q / 8) 0).toNat, UInt8.toNat_lt _⟩
        simp only at h2
        rw [UInt8.toNat_ofNat_of_lt' h2, ← Nat.xor_assoc, Nat.xor_self, Nat.zero_xor]
      · rw [if_neg hk, List.getD_eq_getElem?_getD (l := a.set _ _), List.getElem?_set_ne (by omega), ← List.getD_eq_getElem?_getD, Nat.xor_self]
    simp only [unl, ih, hx]
    by_cases hk : k = q / 8
    · rw [if_pos hk, if_neg (by omega), if_pos (by omega)]
      exact (Nat.zero_add _).trans (pc_pow ⟨q % 8, Nat.mod_lt _ (by decide)⟩)
    · rw [if_neg hk, pcF_zero]
      by_cases h1 : q / 8 < k
      · rw [if_pos h1, if_pos (by omega)]
      · rw [if_neg h1, if_neg (by omega)]

/-- It was sent so. -/
def ComesOf (s m : Ml) : Prop := s.f = m.f ∧ s.t = m.t ∧ s.d.length = m.d.length ∧ ((m.s = false ∧ unl s.d m.d s.d.length = 0) ∨ (m.s = true ∧ unl s.d m.d s.d.length = 1))

theorem xor_byte_lt (x y : UInt8) : x.toNat ^^^ y.toNat < 256 := Nat.xor_lt_two_pow (n := 8) x.toNat_lt y.toNat_lt

set_option maxRecDepth 100000 in
set_option maxHeartbeats 8000000 in
theorem comes_any (m : Ml) (es : List Ml) (va : Option Addr) (c : Nat) (w : World) (hE : MlsAt w.heap.size w va es) (hm : Sl w.heap.size w m.x m.d) (hn : es.length ≤ 1000000) (hd : m.d.length ≤ 140737488355328) (i0 : Nat) (hi0 : i0 < es.length) (hit : ComesOf (es.getD i0 nilMl) m) :
    Calls Try.prog 25 #[.agg #[.int .i64 m.n, .int .i64 m.f, .int .i64 m.t, .slice m.a m.d.length m.c, .bool m.s], .slice va es.length c] w fun e w' => e = .returned (.bool true) ∧ Below w.heap.size w w' := by
  have HE : Hid (MlsAt w.heap.size w va es) := hE
  have HM : Hid (Sl w.heap.size w m.x m.d) := hm
  have HIT : Hid (ComesOf (es.getD i0 nilMl) m) := hit
  clear hE hm hit
  obtain ⟨W0, hW0⟩ : ∃ W0, w.alloc (.cells #[.int .i64 m.n, .int .i64 m.f, .int .i64 m.t, .slice m.a m.d.length m.c, .bool m.s] 41) = W0 := ⟨_, rfl⟩
  have hB0 : Below w.heap.size w W0 := by rw [← hW0]; exact (Below.refl _ w).alloc (Nat.le_refl _) _
  have hX0 : W0.heap[w.heap.size]? = some (.cells #[.int .i64 m.n, .int .i64 m.f, .int .i64 m.t, .slice m.a m.d.length m.c, .bool m.s] 41 (0, 0)) := by rw [← hW0]; exact heap_alloc_new w _
  have hz0 : W0.heap.size = w.heap.size + 1 := by rw [← hW0]; simp
  have HXX : Hid (∀ wr, Below W0.heap.size W0 wr → Below w.heap.size w wr ∧ wr.heap[w.heap.size]? = some (.cells #[.int .i64 m.n, .int .i64 m.f, .int .i64 m.t, .slice m.a m.d.length m.c, .bool m.s] 41 (0, 0)) ∧ w.heap.size < wr.heap.size) := fun wr h => by
    have := h.size
    exact ⟨hB0.trans (h.mono (by omega)), (h.block _ (by omega)).trans hX0, by omega⟩
  have HW0 : Hid (w.alloc (.cells #[.int .i64 m.n, .int .i64 m.f, .int .i64 m.t, .slice m.a m.d.length m.c, .bool m.s] 41) = W0) := hW0
  clear hW0 hB0 hX0 hz0
  go_enter Try.func25, Try.ntmps25
  go_wp2_with fail
  rw [HW0.out]
  clear HW0
  go_loopw [5] (fun iv wr => ∃ (i : Nat), iv = .int .i64 (i : Int) ∧ i ≤ i0 ∧ Below W0.heap.size W0 wr) (fun iv _ => es.length - (intOf iv).toNat)
  case atStart => exact ⟨0, rfl, Nat.zero_le _, Below.refl _ _⟩
  case round =>
    obtain ⟨i, rfl, hi, hB⟩ := hrel
    obtain ⟨hBw, hXr, hwr⟩ := HXX.out wr hB
    have HB : Hid (Below W0.heap.size W0 wr) := hB
    have HBW : Hid (Below w.heap.size w wr) := hBw
    have hlt : i < es.length := by omega
    obtain ⟨g, off, hea, hg, he⟩ := HE.out.at hlt
    subst hea
    have he1 := he.below hg hBw
    obtain ⟨s, hs⟩ : ∃ s, es.getD i nilMl = s := ⟨_, rfl⟩
    rw [hs] at he1
    have HI : Hid (i = i0 → ComesOf s m) := fun e => by rw [← hs, e]; exact HIT.out
    obtain ⟨c0, c1, c2, c3, c4, hsd⟩ := he1
    unfold Ml.x at c3
    have HSD : Hid (Sl w.heap.size wr s.x s.d) := hsd
    have HMD : Hid (Sl w.heap.size wr m.x m.d) := HM.out.below hBw
    obtain ⟨⟨x0, x1, x2, x3, x4⟩, -⟩ := cells5 hXr
    have k0 : (0 : Int) ≤ (i : Int) := by omega
    have k1 : (i : Int) < (es.length : Int) := by omega
    have hgw : g < wr.heap.size := by omega
    obtain ⟨W1, hW1⟩ : ∃ W1, wr.alloc (.cells #[.int .i64 s.n, .int .i64 s.f, .int .i64 s.t, .slice s.a s.d.length s.c, .bool s.s] 41) = W1 := ⟨_, rfl⟩
    have HW1 : Hid (wr.alloc (.cells #[.int .i64 s.n, .int .i64 s.f, .int .i64 s.t, .slice s.a s.d.length s.c, .bool s.s] 41) = W1) := hW1
    have hBa : Below wr.heap.size wr W1 := by rw [← hW1]; exact (Below.refl _ wr).alloc (Nat.le_refl _) _
    have HXa : Hid (W1.heap[wr.heap.size]? = some (.cells #[.int .i64 s.n, .int .i64 s.f, .int .i64 s.t, .slice s.a s.d.length s.c, .bool s.s] 41 (0, 0))) := by show _ = _; rw [← hW1]; exact heap_alloc_new wr _
    have HBA : Hid (Below wr.heap.size wr W1) := hBa
    have HB1 : Hid (Below W0.heap.size W0 W1) := HB.out.trans (hBa.mono HB.out.size)
    have HZ1 : Hid (W1.heap.size = wr.heap.size + 1) := by show _ = _; rw [← hW1]; simp
    clear hB hBw he hsd hXr hs hW1 hBa
    by_cases e1 : s.f = m.f
    · by_cases e2 : s.t = m.t
      · by_cases e3 : s.d.length = m.d.length
        · have HU : Hid (i = i0 → (m.s = false ∧ unl s.d m.d s.d.length = 0) ∨ (m.s = true ∧ unl s.d m.d s.d.length = 1)) := fun e => (HI.out e).2.2.2
          have e1' : (s.f != m.f) = false := by simpa using e1
          have e2' : (s.t != m.t) = false := by simpa using e2
          have HE3 : Hid (s.d.length = m.d.length) := e3
          have e3' : ((s.d.length : Int) != (m.d.length : Int)) = false := by simp [e3]
          have hsl : s.d.length ≤ 140737488355328 := by omega
          have HS1 : Hid (Sl w.heap.size W1 (.slice s.a s.d.length s.c) s.d) := HSD.out.below (HBA.out.mono (Nat.le_of_lt hwr))
          have HM1 : Hid (Sl w.heap.size W1 (.slice m.a m.d.length m.c) m.d) := HMD.out.below (HBA.out.mono (Nat.le_of_lt hwr))
          have HCW : Hid ((W1.cell? ⟨wr.heap.size, 3, none⟩ = some (.slice s.a s.d.length s.c)) ∧ (W1.cell? ⟨w.heap.size, 3, none⟩ = some (.slice m.a m.d.length m.c)) ∧ (W1.cell? ⟨w.heap.size, 4, none⟩ = some (.bool m.s)) ∧ wr.heap.size < W1.heap.size ∧ w.heap.size < W1.heap.size) := by
            refine ⟨(cells5 HXa.out).1.2.2.2.1, (HBA.out.cell (p := ⟨w.heap.size, 3, none⟩) hwr).trans x3, (HBA.out.cell (p := ⟨w.heap.size, 4, none⟩) hwr).trans x4, ?_, ?_⟩
            · have := HZ1.out; omega
            · have := HZ1.out; omega
          clear e1 e2 e3 HI HSD HMD
          go_wp2_with fail
          rw [HW1.out]
          obtain ⟨y3, z3, z4, hw1, hw2⟩ := HCW.out
          clear HW1 HCW HXa x0 x1 x2 x3 x4 c0 c1 c2 c3 c4 HBA HZ1
          go_loopw [7, 8] (fun bv kv wr2 => ∃ (k n : Nat), bv = .int .i64 ((unl s.d m.d k : Nat) : Int) ∧ kv = .int .i64 (k : Int) ∧ k ≤ s.d.length ∧ wr2 = W1.drewN n) (fun _ kv _ => s.d.length - (intOf kv).toNat)
          case atStart => exact ⟨0, 0, rfl, rfl, Nat.zero_le _, rfl⟩
          case round =>
            obtain ⟨k, n, rfl, rfl, hk, rfl⟩ := hrel
            have hul := unl_le s.d m.d k
            by_cases hkl : k < s.d.length
            · obtain ⟨sa, sc, se, -, -, sg⟩ := HS1.out
              cases se
              obtain ⟨sb, so, hsa, hsb, hsc⟩ := sg.resolve_left (by intro hz; rw [hz] at hkl; simp at hkl)
              obtain ⟨ma, mc, me, -, -, mg⟩ := HM1.out
              cases me
              obtain ⟨mb, mo, hma, hmb, hmc⟩ := mg.resolve_left (by intro hz; have h9 := HE3.out; rw [hz] at h9; rw [h9] at hkl; simp at hkl)
              have d1 := hsc k hkl
              have d2 := hmc k (by have := HE3.out; omega)
              rw [← List.getD_eq_getElem?_getD] at d1 d2
              have HUS : Hid (unl s.d m.d (k + 1) = unl s.d m.d k + pcF 8 ((s.d.getD k 0).toNat ^^^ (m.d.getD k 0).toNat)) := rfl
              have hxl := xor_byte_lt (s.d.getD k 0) (m.d.getD k 0)
              have hxb := u8_xor_nat (s.d.getD k 0).toNat (m.d.getD k 0).toNat (UInt8.toNat_lt _) (UInt8.toNat_lt _)
              unfold encB at d1 d2
              generalize (s.d.getD k 0).toNat = xa at *
              generalize (m.d.getD k 0).toNat = xb at *
              generalize xa ^^^ xb = X at *
              have k0' : (0 : Int) ≤ (k : Int) := by omega
              have k1' : (k : Int) < (s.d.length : Int) := by omega
              have k2' : (k : Int) < (m.d.length : Int) := by have := HE3.out; omega
              rw [hsa] at y3
              rw [hma] at z3
              clear hsc hmc sg mg hsa hma
              go_wp2_with fail
              go_quiet (fail)
              go_wp2_with fail
              obtain ⟨W2, hW2⟩ : ∃ W2, (W1.drewN n).drewN nq = W2 := ⟨_, rfl⟩
              have HW2 : Hid ((W1.drewN n).drewN nq = W2) := hW2
              rw [hW2]
              clear hW2
              go_loopw [7, 9] (fun bv xv wr3 => ∃ (f x bt : Nat), bv = .int .i64 (bt : Int) ∧ xv = .int .i64 (x : Int) ∧ x < 256 ∧ x < 2 ^ f ∧ bt + pcF f x = unl s.d m.d (k + 1) ∧ wr3 = W2) (fun _ xv _ => (intOf xv).toNat)
              case atStart => exact ⟨8, X, _, rfl, rfl, hxl, hxl, HUS.out.symm, rfl⟩
              case round =>
                obtain ⟨f, x, bt, rfl, rfl, hx6, hx, hbt, rfl⟩ := hrel
                have HBT : Hid (bt + pcF f x = unl s.d m.d (k + 1)) := hbt
                have hbl : bt ≤ 8 * (k + 1) := by have := unl_le s.d m.d (k + 1); omega
                clear hbt
                by_cases hx0 : x = 0
                · subst hx0
                  have HBE : Hid (bt = unl s.d m.d (k + 1)) := by have := HBT.out; rw [pcF_zero] at this; exact this
                  clear HBT
                  go_wp2
                  exact ⟨⟨k + 1, n + nq, by rw [HBE.out], by go_num, by omega, by rw [← HW2.out, World.drewN_drewN]⟩, by simp [intOf]; omega⟩
                · obtain ⟨f', rfl⟩ : ∃ f', f = f' + 1 := by
                    cases f with
                    | zero => simp at hx; omega
                    | succ f' => exact ⟨f', rfl⟩
                  have HNX : Hid (bt + x % 2 + pcF f' (x / 2) = unl s.d m.d (k + 1) ∧ x / 2 < 2 ^ f') := by
                    have h1 := HBT.out
                    simp only [pcF] at h1
                    refine ⟨by omega, ?_⟩
                    rw [Nat.pow_succ] at hx
                    omega
                  have hxp : (0 : Int) < (x : Int) := by omega
                  have hm2 : ((x % 2 : Nat) : Int) = (x : Int) % 2 := by omega
                  clear HBT hx hxl HUS hxb
                  go_wp2
                  have hwx : ((x / 2 : Nat) : Int) = (x : Int) / 2 := by omega
                  have hwy : ((bt + x % 2 : Nat) : Int) = (bt : Int) + (x : Int) % 2 := by omega
                  exact ⟨⟨f', x / 2, bt + x % 2, by rw [hwy], by rw [hwx], by omega, HNX.out.2, HNX.out.1, by first | trivial | rfl⟩, by simp [intOf]; omega⟩
            · have hke : k = s.d.length := by omega
              have hkl' : (s.d.length : Int) ≤ (k : Int) := by omega
              have hUU : unl s.d m.d k = unl s.d m.d s.d.length := by rw [hke]
              rw [hUU] at hul ⊢
              clear hUU
              have HUU := HU.out
              generalize unl s.d m.d s.d.length = U at *
              have HBF : Hid (∀ nn, Below w.heap.size w (W1.drewN nn)) := fun nn => below_drewN (HXX.out W1 HB1.out).1 nn
              have HBX : Hid (∀ nn, Below W0.heap.size W0 (W1.drewN nn)) := fun nn => below_drewN HB1.out nn
              have HU2 : Hid (i = i0 → _) := HUU
              clear HUU hke HS1 HM1 HU
              obtain ⟨ms, hms⟩ : ∃ ms, m.s = ms := ⟨_, rfl⟩
              have HMS : Hid (m.s = ms) := hms
              rw [hms] at z4
              clear hms
              cases ms with
              | false =>
                by_cases hU0 : U = 0
                · subst hU0
                  go_wp2
                  go_ret
                  exact ⟨rfl, HBF.out _⟩
                · have hU0' : ((U : Int) == 0) = false := by simp; omega
                  have hin : i ≠ i0 := fun e => by rcases HU2.out e with h | h; exact hU0 h.2; simp [HMS.out] at h
                  by_cases hU1 : U = 1
                  · subst hU1
                    go_wp2
                    exact ⟨⟨i + 1, by go_num, by omega, HBX.out _⟩, by simp [intOf]; omega⟩
                  · have hU1' : ((U : Int) == 1) = false := by simp; omega
                    go_wp2
                    exact ⟨⟨i + 1, by go_num, by omega, HBX.out _⟩, by simp [intOf]; omega⟩
              | true =>
                by_cases hU1 : U = 1
                · subst hU1
                  go_wp2
                  go_ret
                  exact ⟨rfl, HBF.out _⟩
                · have hU1' : ((U : Int) == 1) = false := by simp; omega
                  have hin : i ≠ i0 := fun e => by rcases HU2.out e with h | h; simp [HMS.out] at h; exact hU1 h.2
                  by_cases hU0 : U = 0
                  · subst hU0
                    go_wp2
                    exact ⟨⟨i + 1, by go_num, by omega, HBX.out _⟩, by simp [intOf]; omega⟩
                  · have hU0' : ((U : Int) == 0) = false := by simp; omega
                    go_wp2
                    exact ⟨⟨i + 1, by go_num, by omega, HBX.out _⟩, by simp [intOf]; omega⟩
        · have e3' : ((s.d.length : Int) != (m.d.length : Int)) = true := by simp; omega
          have hin : i ≠ i0 := fun e => e3 (HI.out e).2.2.1
          have e1' : (s.f != m.f) = false := by simpa using e1
          have e2' : (s.t != m.t) = false := by simpa using e2
          clear e1 e2 e3 HI
          go_wp2
          exact ⟨⟨i + 1, by go_num, by omega, by first | exact HB1.out | (rw [HW1.out]; exact HB1.out)⟩, by simp [intOf]; omega⟩
      · have e2' : (s.t != m.t) = true := by simpa using e2
        have hin : i ≠ i0 := fun e => e2 (HI.out e).2.1
        have e1' : (s.f != m.f) = false := by simpa using e1
        clear e1 e2 HI
        go_wp2
        exact ⟨⟨i + 1, by go_num, by omega, by first | exact HB1.out | (rw [HW1.out]; exact HB1.out)⟩, by simp [intOf]; omega⟩
    · have e1' : (s.f != m.f) = true := by simpa using e1
      have hin : i ≠ i0 := fun e => e1 (HI.out e).1
      clear e1 HI
      go_wp2
      exact ⟨⟨i + 1, by go_num, by omega, by first | exact HB1.out | (rw [HW1.out]; exact HB1.out)⟩, by simp [intOf]; omega⟩
end Go.Proofs.Ytefbfjlmhfmiiaa
