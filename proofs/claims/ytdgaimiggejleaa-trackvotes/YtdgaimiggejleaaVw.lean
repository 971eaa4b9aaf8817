/-
  TrackVotes: the walk.
-/
import Derived.Test.YtdgaimiggejleaaRv
namespace Go.Proofs.Ytdgaimiggejleaa
open Go.RowKit
set_option linter.unusedVariables false

/-- Both votes lie in the memory; the program's at b, the document's at c. -/
structure Bo (N : Nat) (w0 w : World) (b c vg R : Nat) (v : PV) (u : Nat → Int) : Prop where
  ve : VE w b v
  rv : RV N w c vg R u
  bel : Below N w0 w
  nb : N ≤ b
  bc : b ≠ c
  bv : b ≠ vg
  n0 : N ≤ w0.heap.size
theorem Bo.drew {N : Nat} {w0 w : World} {b c vg R : Nat} {v : PV} {u : Nat → Int} (h : Bo N w0 w b c vg R v u) (n : Nat) : Bo N w0 (w.drewN n) b c vg R v u :=
  ⟨h.ve, h.rv.out (X := fun _ => False) (Out.drew w n) (fun h => h) (fun h => h), ⟨h.bel.os, h.bel.tape, h.bel.output, h.bel.size, h.bel.block⟩, h.nb, h.bc, h.bv, h.n0⟩
theorem Bo.put {N : Nat} {w0 w : World} {b c vg R : Nat} {v : PV} {u : Nat → Int} (h : Bo N w0 w b c vg R v u) (ho : v.Ok) (id : Int) (yes : Bool) :
    Calls Try.prog 17 #[.pointer (some ⟨b, 0, none⟩), .int .i64 id, .bool yes] w fun e w' => e = .returned (.bool (v.putY id)) ∧ Bo N w0 w' b c vg R (v.put id yes) u :=
  (Put_any h.ve ho id yes).mono fun e w' h2 => ⟨h2.1, h2.2.1, h.rv.out h2.2.2 (fun e => h.bc e.symm) (fun e => h.bv e.symm), h.bel.trans (h2.2.2.below (Nat.le_trans h.n0 h.bel.size) (by rintro j rfl; exact h.nb)), h.nb, h.bc, h.bv, h.n0⟩
theorem Bo.rput {N : Nat} {w0 w : World} {b c vg R : Nat} {v : PV} {u : Nat → Int} (h : Bo N w0 w b c vg R v u) (hR : R ≤ 7) (id : Int) (yes : Bool) :
    Calls Try.prog 18 #[.pointer (some ⟨c, 0, none⟩), .int .i64 id, .bool yes] w fun e w' => e = .returned (.bool (ruY R u id)) ∧ Bo N w0 w' b c vg R v (ruP R u id yes) :=
  (rPut_any h.rv hR id yes).mono fun e w' h2 => ⟨h2.1, h.ve.out h2.2.2 h.bv, h2.2.1, h.bel.trans (h2.2.2.below (Nat.le_trans h.n0 h.bel.size) (by rintro j rfl; exact h.rv.row.lt.1)), h.nb, h.bc, h.bv, h.n0⟩

set_option maxRecDepth 100000 in
set_option maxHeartbeats 8000000 in
theorem votes_walk (z0 : Int) (ea : Option Addr) (ec : Nat) (es : List Vot) (w : World) (hx : VotAts w.heap.size w ea es) (hel : es.length ≤ 9223372036854775807) :
    Calls Try.prog 4 #[.int .i64 z0, .slice ea es.length ec] w fun e w' => e = .returned (.bool true) ∧ Below w.heap.size w w' := by
  have HF : Hid (Calls _ _ _ _ _) := first_any w
  have HX : Hid (VotAts w.heap.size w ea es) := hx
  clear hx
  go_enter Try.func4, Try.ntmps4
  go_wp2_with fail
  refine HF.out.mono ?_
  rintro r w1 ⟨rfl, hB1⟩
  have HB1 : Hid (Below w.heap.size w w1) := hB1
  clear hB1 HF
  by_cases hr : 1 ≤ z0 ∧ z0 ≤ 7
  · obtain ⟨R, rfl⟩ : ∃ R : Nat, z0 = (R : Int) := ⟨z0.toNat, by omega⟩
    have hR1 : 1 ≤ R := by omega
    have hR7 : R ≤ 7 := by omega
    clear hr
    go_wp2_with fail
    refine (NewVotes_any (R : Int) w1 (by omega) (by omega)).mono ?_
    rintro r w2 ⟨rfl, hV2, hB2⟩
    have HV2 : Hid (VE w2 w1.heap.size (pV0 (R : Int))) := hV2
    have HB2 : Hid (Below w.heap.size w w2) := HB1.out.trans (hB2.mono HB1.out.size)
    clear hV2 hB2
    go_wp2_with fail
    refine (rNew_any w.heap.size R w2 hR1 hR7 HB2.out.size).mono ?_
    rintro r w3 ⟨c, vg, rfl, hRV, hB3, hc, hvg⟩
    have hb2 := HV2.out.lt
    have HBO : Hid (Bo w.heap.size w w3 w1.heap.size c vg R (pV0 (R : Int)) (fun _ => 0)) := ⟨HV2.out.below hB3, hRV, HB2.out.trans (hB3.mono HB2.out.size), HB1.out.size, by omega, by omega, Nat.le_refl _⟩
    have HB3 : Hid (Below w.heap.size w w3) := HBO.out.bel
    clear hRV hB3 hc hvg HV2 HB2 hb2
    generalize w1.heap.size = b at *
    by_cases hl : es.length ≤ 300
    · go_wp2
      go_loopw [8] (fun iv wr => ∃ (k : Nat) (v : PV) (u : Nat → Int), iv = .int .i64 (k : Int) ∧ k ≤ es.length ∧ v.Cnt ∧ Rl R v u ∧ Bo w.heap.size w wr b c vg R v u) (fun iv _ => es.length - (intOf iv).toNat)
      case atStart => exact ⟨0, _, _, rfl, Nat.zero_le _, PV.Cnt.new _ (by omega) (by omega), Rl.new R, HBO.out⟩
      case round =>
        obtain ⟨k, v, u, rfl, hk, hC, hRl, hBo⟩ := hrel
        have HC : Hid v.Cnt := hC
        have HR : Hid (Rl R v u) := hRl
        have HB : Hid (Bo w.heap.size w wr b c vg R v u) := hBo
        clear hC hRl hBo HBO HB3
        by_cases hlt : k < es.length
        · obtain ⟨g, off, rfl, hg, hd⟩ := HX.out.at hlt
          have HD : Hid (∀ wq, Below w.heap.size w wq → wq.cell? ⟨g, off + k * 2, none⟩ = some (.int .i64 (es.getD k nilVot).id) ∧ wq.cell? ⟨g, off + k * 2 + 1, none⟩ = some (.bool (es.getD k nilVot).yes)) := fun wq hq => by
            obtain ⟨⟨c0, c1⟩, -⟩ := hd.below hg hq
            exact ⟨c0, c1⟩
          obtain ⟨c0, c1⟩ := HD.out wr HB.out.bel
          have hkk : (k : Int) < (es.length : Int) := by omega
          clear hd
          generalize (es.getD k nilVot).id = id at *
          generalize (es.getD k nilVot).yes = yes at *
          have HY : Hid (ruY R u id = v.putY id) := HR.out.y id
          have HCP : Hid (v.put id yes).Cnt := HC.out.put id yes
          have HRP : Hid (Rl R (v.put id yes) (ruP R u id yes)) := HR.out.put id yes
          have HP1 : Hid (∀ n, Calls Try.prog 17 #[.pointer (some ⟨b, 0, none⟩), .int .i64 id, .bool yes] (wr.drewN n) fun e w' => e = .returned (.bool (v.putY id)) ∧ Bo w.heap.size w w' b c vg R (v.put id yes) u) := fun n => (HB.out.drew n).put HC.out.ok id yes
          have HP2 : Hid (∀ w5, Bo w.heap.size w w5 b c vg R (v.put id yes) u → Calls Try.prog 18 #[.pointer (some ⟨c, 0, none⟩), .int .i64 id, .bool yes] w5 fun e w' => e = .returned (.bool (v.putY id)) ∧ Bo w.heap.size w w' b c vg R (v.put id yes) (ruP R u id yes)) := fun w5 h5 => (h5.rput hR7 id yes).mono fun e w' h => ⟨by rw [h.1, HY.out], h.2⟩
          have hyy : (v.putY id != v.putY id) = false := by simp
          generalize v.putY id = y at *
          generalize v.put id yes = v' at *
          generalize ruP R u id yes = u' at *
          have HNX : Hid (∀ wn, Bo w.heap.size w wn b c vg R v' u' → (∃ (k' : Nat) (v : PV) (u : Nat → Int), Value.int .i64 ((k : Int) + 1) = .int .i64 (k' : Int) ∧ k' ≤ es.length ∧ v.Cnt ∧ Rl R v u ∧ Bo w.heap.size w wn b c vg R v u) ∧ es.length - (intOf (Value.int .i64 ((k : Int) + 1))).toNat < es.length - (intOf (Value.int .i64 (k : Int))).toNat) := fun wn h => ⟨⟨k + 1, v', u', by simp, hlt, HCP.out, HRP.out, h⟩, by simp [intOf]; omega⟩
          have HCO : Hid (∀ w5, Bo w.heap.size w w5 b c vg R v' u' → Calls Try.prog 19 #[.pointer (some ⟨b, 0, none⟩)] w5 fun e w' => e = .returned (.tuple #[.int .i64 v'.g, .int .i64 v'.r]) ∧ Bo w.heap.size w w' b c vg R v' u') := fun w5 h => (Counts_any h.ve).mono fun e w' ⟨h2, n, h3⟩ => by subst h3; exact ⟨h2, h.drew n⟩
          have HRC : Hid (∀ w5, Bo w.heap.size w w5 b c vg R v' u' → Calls Try.prog 20 #[.pointer (some ⟨c, 0, none⟩)] w5 fun e w' => e = .returned (.tuple #[.int .i64 v'.g, .int .i64 v'.r]) ∧ w' = w5) := fun w5 h => (rCounts_any h.rv hR7).mono fun e w' h2 => ⟨by rw [h2.1, HRP.out.g, HRP.out.r], h2.2⟩
          have HRE : Hid (∀ w5, Bo w.heap.size w w5 b c vg R v' u' → Calls Try.prog 21 #[.pointer (some ⟨b, 0, none⟩)] w5 fun e w' => e = .returned (.int .i64 v'.res) ∧ Bo w.heap.size w w' b c vg R v' u') := fun w5 h => (Result_any h.ve HCP.out.ok).mono fun e w' ⟨h2, n, h3⟩ => by subst h3; exact ⟨h2, h.drew n⟩
          have HRR : Hid (∀ w5, Bo w.heap.size w w5 b c vg R v' u' → Calls Try.prog 22 #[.pointer (some ⟨c, 0, none⟩)] w5 fun e w' => e = .returned (.int .i64 v'.res) ∧ w' = w5) := fun w5 h => (rResult_any h.rv hR1 hR7).mono fun e w' h2 => ⟨by
            rw [h2.1]
            have h3 := HRP.out
            unfold PV.res
            simp only
            rw [← h3.nd, h3.g, h3.r], h2.2⟩
          have HDD : Hid (∀ w5 v u, Bo w.heap.size w w5 b c vg R v u → w5.cell? ⟨g, off + k * 2, none⟩ = some (.int .i64 id) ∧ w5.cell? ⟨g, off + k * 2 + 1, none⟩ = some (.bool yes)) := fun w5 v u h => HD.out w5 h.bel
          have hgg : (v'.g != v'.g) = false := by simp
          have hrr : (v'.r != v'.r) = false := by simp
          have hss : (v'.res != v'.res) = false := by simp
          clear HR HC HY
          go_wp2_with fail
          go_region_held3 (fun w' => w'.cell? ⟨g, off + k * 2, none⟩ = some (.int .i64 id) ∧ w'.cell? ⟨g, off + k * 2 + 1, none⟩ = some (.bool yes)) (go_keep)
            (first
              | (go_at_call 17; refine (HP1.out 1).mono ?_; rintro r w5 ⟨rfl, h5⟩; obtain ⟨q0, q1⟩ := HDD.out w5 _ _ h5; have H5 : Hid (Bo _ _ _ _ _ _ _ _ _) := h5; clear h5)
              | (go_at_call 18; refine (HP2.out _ H5.out).mono ?_; rintro r w6 ⟨rfl, h6⟩; obtain ⟨q0, q1⟩ := HDD.out w6 _ _ h6; have H6 : Hid (Bo _ _ _ _ _ _ _ _ _) := h6; clear h6)
              | fail)
          go_wp2_with (first
            | (go_at_call 19; refine (HCO.out w6 H6.out).mono ?_; rintro r w7 ⟨rfl, h7⟩; have H7 : Hid (Bo _ _ _ _ _ _ _ _ _) := h7; clear h7)
            | (go_at_call 20; refine (HRC.out w7 H7.out).mono ?_; rintro r wq ⟨rfl, hwq⟩; subst wq)
            | (go_at_call 21; refine (HRE.out w7 H7.out).mono ?_; rintro r w8 ⟨rfl, h8⟩; have H8 : Hid (Bo _ _ _ _ _ _ _ _ _) := h8; clear h8)
            | (go_at_call 22; refine (HRR.out w8 H8.out).mono ?_; rintro r wq ⟨rfl, hwq⟩; subst wq))
          exact HNX.out _ H8.out
        · have hkn : k = es.length := by omega
          go_wp2
          go_ret
          exact ⟨rfl, HB.out.bel⟩
    · have hl2 : 300 < es.length := by omega
      go_wp2
      go_ret
      exact ⟨rfl, HB3.out⟩
  · go_wp2_with (first
      | (go_at_call 15; refine (NewVotes_none z0 w1 hr).mono ?_; rintro r wq ⟨rfl, hwq⟩; subst wq)
      | (go_at_call 16; refine (rNew_none z0 w1 hr).mono ?_; rintro r wq ⟨rfl, hwq⟩; subst wq))
    go_ret
    exact ⟨rfl, HB1.out⟩

theorem trackVotes_in (w : World) (z0 : Int) (hb0 : In64 z0) {ea : Option Addr} {ec : Nat} (es : List Vot) (s : VotAts w.heap.size w ea es ∧ es.length ≤ 9223372036854775807) :
    Calls Try.prog 4 #[.int .i64 z0, .slice ea es.length ec] w fun e w' => e = .returned (.bool true) ∧ Below w.heap.size w w' := votes_walk z0 ea ec es w s.1 s.2
end Go.Proofs.Ytdgaimiggejleaa
