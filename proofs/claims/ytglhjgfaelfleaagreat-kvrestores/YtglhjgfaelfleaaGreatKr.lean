/-
  KvRestores: the walk of the law.
-/
import Derived.Test.YtglhjgfaelfleaaGreatRr2
import Derived.Test.YtglhjgfaelfleaaGreatJcq
import Derived.Test.YtglhjgfaelfleaaGreatJsa
namespace Go.Proofs.YtglhjgfaelfleaaGreat
open Go.RowKit
set_option linter.unusedVariables false

theorem Sl.wide {N M : Nat} {w : World} {v : Value} {l : Bs} (h : Sl N w v l) (hM : N ≤ M) : Sl M w v l := by
  obtain ⟨a, cap, rfl, h1, h2, h3⟩ := h
  refine ⟨a, cap, rfl, h1, h2, ?_⟩
  rcases h3 with h3 | ⟨b, off, e, hb, hc⟩
  · exact .inl h3
  · exact .inr ⟨b, off, e, by omega, hc⟩
theorem eql_ptr_nilD (W : World) (b : Nat) : (binOp .eql 31 (.pointer (some ⟨b, 0, none⟩)) (.pointer none)).run Tryz.prog W = .ok (.bool false) W := by kernel_rfl
/-- A row of bytes lies in no block of another type. -/
theorem Ow.ne_cells {N : Nat} {w : World} {g n cap : Nat} {l : Bs} (h : Ow N w (.slice (some ⟨g, 0, none⟩) n cap) l) {b : Nat} {cs : Array Value} {t : TypeId} {z : Nat × Nat} (hb : w.heap[b]? = some (.cells cs t z)) (ht : t ≠ 5) : b ≠ g := fun e => h.not_at hb ht (by rw [e]; rfl)
theorem Ow.ne_map {N : Nat} {w : World} {g n cap : Nat} {l : Bs} (h : Ow N w (.slice (some ⟨g, 0, none⟩) n cap) l) {k : TypeId} {m c : Nat} {D : DataW Value} (hm : w.ownsMap Tryz.prog k rdV m c D) : m ≠ g := fun e => by
  obtain ⟨es, clock, hb, _⟩ := hm
  rcases h.2 with ⟨h0, _⟩ | ⟨g', cap', cur, hv, _, hgb, _⟩
  · cases h0
  · cases hv
    rw [e, hgb] at hb
    cases hb
/-- What was restored, on both sides, and what was lent beside it. -/
structure Bt (W : World) (N b mp ms d : Nat) (K : KV) : Prop where
  st : St W b mp ms K
  ds : ∃ vp vs, DS N W d vp vs K
theorem Bt.below {W V : World} {N b mp ms d : Nat} {K : KV} (h : Bt W N b mp ms d K) (hB : Below W.heap.size W V) : Bt V N b mp ms d K := by
  obtain ⟨vp, vs, hd⟩ := h.ds
  exact ⟨h.st.below hB, vp, vs, hd.below hB⟩
/-- The bytes that were lent are written over. -/
theorem Bt.poke {W V : World} {N M b mp ms d : Nat} {K : KV} (h : Bt W N b mp ms d K) {g n cap : Nat} {l : Bs} (ho : Ow M W (.slice (some ⟨g, 0, none⟩) n cap) l) (hO : Out (fun i => i = g) W V) : Bt V N b mp ms d K := by
  obtain ⟨vp, vs, hd⟩ := h.ds
  have e1 : b ≠ g := ho.ne_cells h.st.hd (by decide)
  have e2 : mp ≠ g := ho.ne_map h.st.hp
  have e3 : ms ≠ g := ho.ne_map h.st.hs
  have e4 : d ≠ g := ho.ne_cells hd.hd (by decide)
  refine ⟨h.st.out hO e1 e2 e3, vp, vs, (hO.block d (Array.getElem?_eq_some_iff.1 hd.hd).1 e4).trans hd.hd, hd.rp.out hO (fun x hx e => ?_), hd.rs.out hO (fun x hx e => ?_), hd.low, hd.ris, hd.rise, hd.ok⟩
  · subst e
    rcases ho.2 with ⟨h0, _⟩ | ⟨g', cap', cur, hv, _, hgb, _⟩
    · cases h0
    · cases hv; exact hd.rp.apart hgb (by decide) hx
  · subst e
    rcases ho.2 with ⟨h0, _⟩ | ⟨g', cap', cur, hv, _, hgb, _⟩
    · cases h0
    · cases hv; exact hd.rs.apart hgb (by decide) hx
theorem Bt.same {W : World} {N b mp ms d : Nat} {K : KV} (h : Bt W N b mp ms d K) :
    Calls Tryz.prog 13 #[.pointer (some ⟨b, 0, none⟩), .pointer (some ⟨d, 0, none⟩)] W fun e w' => e = .returned (.bool true) ∧ Below W.heap.size W w' := by
  obtain ⟨vp, vs, hd⟩ := h.ds
  exact sameKv_any h.st hd
/-- Behind both Restores. -/
theorem bt_of {W4 W5 : World} {l : Bs} {b mp ms D : Nat} {vp vs : Value} (hE : rstE l = 0) (h4 : Sw W4 b mp ms (rstK l)) (hB : Below W4.heap.size W4 W5) (hd : W5.heap[D]? = some (.cells #[vp, vs] 63 (0, 0))) (hp : Ro RQ W4.heap.size W5 vp (docK l).ps) (hs : Ro RT W4.heap.size W5 vs (docK l).ss) (hlo : W4.heap.size ≤ D) : Bt W5 W4.heap.size b mp ms D (rstK l) := by
  have hK := (doc_rst l).2 hE
  rw [hK] at hp hs
  have hok := (rst_ok hE).1
  exact ⟨(h4.below hB).st hok, vp, vs, hd, hp, hs, hlo, h4.risP, h4.risS, hok⟩
theorem bd_of {W R1 R2 : World} {N b mp ms d c mc nc : Nat} {K : KV} (h : Bt W N b mp ms d K) (hc : St R1 c mc nc K) (hB1 : Below W.heap.size W R1) (l1 : W.heap.size ≤ mc) (l2 : W.heap.size ≤ nc) {dd : Nat} {vp vs : Value} (hd : DS R1.heap.size R2 dd vp vs K) (hB2 : Below R1.heap.size R1 R2) : Bd W R2 R1.heap.size c mc nc dd K K :=
  ⟨⟨hc.below hB2, hB1.trans (hB2.mono hB1.size), l1, l2⟩, ⟨vp, vs, hd⟩, hc.lt, hB1.size, hB2.size⟩

set_option maxRecDepth 100000 in
set_option maxHeartbeats 8000000 in
theorem restores_walk (w : World) (ba : Option Addr) (bc : Nat) (bs : Bs) (hbs : Sl w.heap.size w (.slice ba bs.length bc) bs) (a : Option Addr) (cap : Nat) (cs : List Cm) (hc : Cs w.heap.size w a cs) :
    Calls Tryz.prog 3 #[.slice ba bs.length bc, .slice a cs.length cap] w fun e w' => e = .returned (.bool true) ∧ Below w.heap.size w w' := by
  have HC : Hid (∀ W, Below w.heap.size w W → Cs w.heap.size W a cs) := fun W hB => hc.below hB
  have HBS : Hid (∀ W, Below w.heap.size w W → Sl w.heap.size W (.slice ba bs.length bc) bs) := fun W hB => hbs.below hB
  have hl : cs.length ≤ maxLen := hc.1
  have hbl : bs.length ≤ maxLen := by obtain ⟨a', c', e, h1, h2, -⟩ := hbs; omega
  unfold maxLen at hl hbl
  clear hc hbs
  go_enter Tryz.func3, Tryz.ntmps3
  go_wp2_with fail
  refine (first_any w).mono ?_
  rintro e w1 ⟨rfl, hB1⟩
  have HF := few_any a cap cs w.heap.size w1 (HC.out w1 hB1)
  have HB1 : Hid (Below w.heap.size w w1) := hB1
  clear hB1
  go_wp2_with fail
  refine HF.mono ?_
  rintro e w2 ⟨t, rfl, ht, n2, rfl⟩
  have HB2 : Hid (Below w.heap.size w (w1.drewN n2)) := Below.drewN' HB1.out n2
  clear HF
  cases t with
  | false =>
    go_wp2
    go_ret
    exact ⟨rfl, HB2.out⟩
  | true =>
    have hl4 : cs.length ≤ 400 := ht rfl
    clear ht
    generalize w1.drewN n2 = W2 at *
    clear HB1
    by_cases hkl : 40000 < bs.length
    · have hkl' : decide ((40000 : Int) < (bs.length : Int)) = true := by simp; omega
      clear hkl
      go_wp2
      go_ret
      exact ⟨rfl, HB2.out⟩
    have hkl' : decide ((40000 : Int) < (bs.length : Int)) = false := by simp; omega
    have hb4 : bs.length ≤ 40000 := by omega
    clear hkl
    have CL := lent_any w.heap.size _ bs W2 (HBS.out W2 HB2.out) HB2.out.size (by omega)
    go_wp2_with fail
    refine CL.mono ?_
    rintro e W3 ⟨g, gc, rfl, hO3, hB3⟩
    have HO3 : Hid (Ow W2.heap.size W3 (.slice (some ⟨g, 0, none⟩) (bs.length + 1) gc) (bs ++ [201])) := hO3
    have HB3 : Hid (Below w.heap.size w W3) := HB2.out.trans (hB3.mono HB2.out.size)
    have CR := restore_any W3 (hO3.lent (Nat.le_refl _)) (by omega)
    clear CL hO3 hB3
    go_wp2_with fail
    refine CR.mono ?_
    rintro e W4 ⟨hB4, hR4⟩
    have HB4 : Hid (Below w.heap.size w W4) := HB3.out.trans (hB4.mono HB3.out.size)
    have HO4 : Hid (Ow W2.heap.size W4 (.slice (some ⟨g, 0, none⟩) (bs.length + 1) gc) (bs ++ [201])) := HO3.out.below hB4 (Nat.le_refl _)
    have CW := rrestore_any W4 (HBS.out W4 HB4.out) HB4.out.size (by omega)
    have HCW : Hid (Calls _ _ _ _ _) := CW
    have HDR : Hid (docE bs = rstE bs) := (doc_rst bs).1
    clear CR hB4 CW HB3 HO3
    rcases hR4 with ⟨h1, rfl⟩ | ⟨h1, b, mp, ms, rfl, hSf, -, -⟩
    · have H1 : Hid (rstE bs ≠ 0) := h1
      go_wp2_with fail
      refine HCW.out.mono ?_
      rintro e W5 ⟨hB5, hD5⟩
      rcases hD5 with ⟨h2, rfl⟩ | ⟨h2, -⟩
      case inr => exact absurd (HDR.out.symm.trans h2) H1.out
      rw [HDR.out]
      have HB5 : Hid (Below w.heap.size w W5) := HB4.out.trans (hB5.mono HB4.out.size)
      have HO5 : Hid (Ow W2.heap.size W5 (.slice (some ⟨g, 0, none⟩) (bs.length + 1) gc) (bs ++ [201])) := HO4.out.below hB5 (Nat.le_refl _)
      clear hB5 h2 HO4 HB4 HCW HDR h1 H1
      generalize rstE bs = er at *
      have CK := kept_any W2.heap.size g gc (.slice ba bs.length bc) bs W5 (by omega) HO5.out ((HBS.out W5 HB5.out).wide HB5.out.size)
      obtain ⟨-, hgc1, hgc2⟩ := HO5.out.mark
      unfold maxLen at hgc2
      have hgc3 : bs.length ≤ gc := by omega
      go_wp2_with fail
      refine CK.mono ?_
      rintro e W6 ⟨rfl, n6, hw6⟩
      have hB56 : Below W5.heap.size W5 W6 := by rw [hw6]; exact Below.drewN' (Below.refl _ _) _
      have HB6 : Hid (Below w.heap.size w W6) := HB5.out.trans (hB56.mono HB5.out.size)
      have HO6 : Hid (Ow W2.heap.size W6 (.slice (some ⟨g, 0, none⟩) (bs.length + 1) gc) (bs ++ [201])) := HO5.out.below hB56 (Nat.le_refl _)
      clear hw6 hB56 CK HO5 HB5
      go_wp2_with fail
      go_loopw [13] (fun kv wr => ∃ (k : Nat) (zs : Bs), kv = .int .i64 (k : Int) ∧ k ≤ bs.length ∧ zs.length = bs.length + 1 ∧ Ow W2.heap.size wr (.slice (some ⟨g, 0, none⟩) (bs.length + 1) gc) zs ∧ Below w.heap.size w wr) (fun kv _ => bs.length - (intOf kv).toNat)
      case atStart => exact ⟨0, _, rfl, Nat.zero_le _, by simp, HO6.out, HB6.out⟩
      case round =>
        obtain ⟨k, zs, rfl, hk, hzl, hR, hB⟩ := hrel
        have HBz : Hid (Below w.heap.size w wr) := hB
        clear hB HO6 HB6
        by_cases hlt : k < bs.length
        · have hlt' : (k : Int) < (bs.length : Int) := by omega
          have hi0 : (0 : Int) ≤ (k : Int) := by omega
          rw [← hzl] at hR
          obtain ⟨k1, k2, k3⟩ := hR.can k (by omega)
          have hst := hR.store k 54
          have hgN := (World.ownsRow.lt hR g rfl).1
          have hgw : w.heap.size ≤ g := Nat.le_trans HB2.out.size hgN
          rw [hzl] at hst
          have HFIN : Hid (∃ (k' : Nat) (zs' : Bs), Value.int .i64 ((k + 1 : Nat) : Int) = .int .i64 (k' : Int) ∧ k' ≤ bs.length ∧ zs'.length = bs.length + 1 ∧ Ow W2.heap.size (wr.setCell ⟨g, k, none⟩ (.int .u8 54)) (.slice (some ⟨g, 0, none⟩) (bs.length + 1) gc) zs' ∧ Below w.heap.size w (wr.setCell ⟨g, k, none⟩ (.int .u8 54))) :=
            ⟨k + 1, _, rfl, by omega, by rw [List.length_set]; exact hzl, hst, out_belowN HBz.out (Out.set rfl) HBz.out.size hgw⟩
          unfold encB at k1
          generalize byteAt zs k = y at k1
          clear hst hR hzl hgw
          go_wp2
          exact ⟨HFIN.out, by simp [intOf]; omega⟩
        · have hlt' : decide ((k : Int) < (bs.length : Int)) = false := by simp; omega
          clear hR hzl hk
          generalize wr = Wa at *
          go_wp2_with fail
          refine (num_any _ _).mono ?_
          rintro e wz ⟨rfl, hz⟩
          subst wz
          go_wp2
          go_ret
          exact ⟨by simp, HBz.out⟩
    · have H1 : Hid (rstE bs = 0) := h1
      have HSW : Hid (Sw W4 b mp ms (rstK bs)) := hSf
      clear hSf
      go_wp2_with fail
      refine HCW.out.mono ?_
      rintro e W5 ⟨hB5, hD5⟩
      rcases hD5 with ⟨h2, -⟩ | ⟨h2, D, vp, vs, rfl, hd5, hp5, hs5, hlo⟩
      case inl => exact absurd (HDR.out.trans H1.out) h2
      have HBt5 : Hid (Bt W5 W4.heap.size b mp ms D (rstK bs)) := bt_of H1.out HSW.out hB5 hd5 hp5 hs5 hlo
      have HB5 : Hid (Below w.heap.size w W5) := HB4.out.trans (hB5.mono HB4.out.size)
      have HO5 : Hid (Ow W2.heap.size W5 (.slice (some ⟨g, 0, none⟩) (bs.length + 1) gc) (bs ++ [201])) := HO4.out.below hB5 (Nat.le_refl _)
      clear hB5 h2 HO4 HB4 HCW HDR h1 H1 hd5 hp5 hs5 hlo HSW
      generalize rstK bs = K at *
      generalize W4.heap.size = N5 at *
      have CK := kept_any W2.heap.size g gc (.slice ba bs.length bc) bs W5 (by omega) HO5.out ((HBS.out W5 HB5.out).wide HB5.out.size)
      obtain ⟨-, hgc1, hgc2⟩ := HO5.out.mark
      unfold maxLen at hgc2
      have hgc3 : bs.length ≤ gc := by omega
      go_wp2_with fail
      refine CK.mono ?_
      rintro e W6 ⟨rfl, n6, hw6⟩
      have hB56 : Below W5.heap.size W5 W6 := by rw [hw6]; exact Below.drewN' (Below.refl _ _) _
      have HB6 : Hid (Below w.heap.size w W6) := HB5.out.trans (hB56.mono HB5.out.size)
      have HO6 : Hid (Ow W2.heap.size W6 (.slice (some ⟨g, 0, none⟩) (bs.length + 1) gc) (bs ++ [201])) := HO5.out.below hB56 (Nat.le_refl _)
      have HBt6 : Hid (Bt W6 N5 b mp ms D K) := HBt5.out.below hB56
      clear hw6 hB56 CK HO5 HB5
      go_wp2_with fail
      go_loopw [13] (fun kv wr => ∃ (k : Nat) (zs : Bs), kv = .int .i64 (k : Int) ∧ k ≤ bs.length ∧ zs.length = bs.length + 1 ∧ Ow W2.heap.size wr (.slice (some ⟨g, 0, none⟩) (bs.length + 1) gc) zs ∧ Below w.heap.size w wr ∧ Bt wr N5 b mp ms D K) (fun kv _ => bs.length - (intOf kv).toNat)
      case atStart => exact ⟨0, _, rfl, Nat.zero_le _, by simp, HO6.out, HB6.out, HBt6.out⟩
      case round =>
        obtain ⟨k, zs, rfl, hk, hzl, hR, hB, hBt⟩ := hrel
        have HBz : Hid (Below w.heap.size w wr) := hB
        have HBt : Hid (Bt wr N5 b mp ms D K) := hBt
        clear hB HO6 HB6 HBt6 hBt HBt5
        by_cases hlt : k < bs.length
        · have hlt' : (k : Int) < (bs.length : Int) := by omega
          have hi0 : (0 : Int) ≤ (k : Int) := by omega
          rw [← hzl] at hR
          obtain ⟨k1, k2, k3⟩ := hR.can k (by omega)
          have hst := hR.store k 54
          have hgN := (World.ownsRow.lt hR g rfl).1
          have hgw : w.heap.size ≤ g := Nat.le_trans HB2.out.size hgN
          have hpk : Bt (wr.setCell ⟨g, k, none⟩ (.int .u8 54)) N5 b mp ms D K := HBt.out.poke hR (Out.set rfl)
          rw [hzl] at hst
          have HFIN : Hid (∃ (k' : Nat) (zs' : Bs), Value.int .i64 ((k + 1 : Nat) : Int) = .int .i64 (k' : Int) ∧ k' ≤ bs.length ∧ zs'.length = bs.length + 1 ∧ Ow W2.heap.size (wr.setCell ⟨g, k, none⟩ (.int .u8 54)) (.slice (some ⟨g, 0, none⟩) (bs.length + 1) gc) zs' ∧ Below w.heap.size w (wr.setCell ⟨g, k, none⟩ (.int .u8 54)) ∧ Bt (wr.setCell ⟨g, k, none⟩ (.int .u8 54)) N5 b mp ms D K) :=
            ⟨k + 1, _, rfl, by omega, by rw [List.length_set]; exact hzl, hst, out_belowN HBz.out (Out.set rfl) HBz.out.size hgw, hpk⟩
          unfold encB at k1
          generalize byteAt zs k = y at k1
          clear hst hR hzl hgw hpk
          go_wp2
          exact ⟨HFIN.out, by simp [intOf]; omega⟩
        · have hlt' : decide ((k : Int) < (bs.length : Int)) = false := by simp; omega
          clear hR hzl hk
          generalize wr = Wa at *
          have hnb := eql_ptr_nil Wa b
          have hnd := eql_ptr_nilD Wa D
          have CC := copy_any HBt.out.st
          have HCC : Hid (Calls _ _ _ _ _) := CC
          clear CC
          go_wp2_with fail
          refine (num_any _ _).mono ?_
          rintro e wz ⟨rfl, hz⟩
          subst wz
          go_wp2_with fail
          refine HCC.out.mono ?_
          rintro e R1 ⟨c, mc, nc, rfl, hS1, hB1, l1, l2⟩
          have HBt1 : Hid (Bt R1 N5 b mp ms D K) := HBt.out.below hB1
          obtain ⟨vp1, vs1, hd1⟩ := HBt1.out.ds
          have CD := rcopy_any hd1
          have HCD : Hid (Calls _ _ _ _ _) := CD
          have HS1 : Hid (St R1 c mc nc K ∧ Below Wa.heap.size Wa R1 ∧ Wa.heap.size ≤ mc ∧ Wa.heap.size ≤ nc) := ⟨hS1, hB1, l1, l2⟩
          have hnc := eql_ptr_nil R1 c
          clear CD HCC hd1 hS1 hB1 l1 l2 hnb hnd
          go_wp2_with fail
          refine HCD.out.mono ?_
          rintro e R2 ⟨dd, vp2, vs2, rfl, hd2, hB2'⟩
          have HBd : Hid (Bd Wa R2 R1.heap.size c mc nc dd K K) := bd_of HBt.out HS1.out.1 HS1.out.2.1 HS1.out.2.2.1 HS1.out.2.2.2 hd2 hB2'
          have HBt2 : Hid (∀ V, Below Wa.heap.size Wa V → Bt V N5 b mp ms D K) := fun V hV => HBt.out.below hV
          have hnc2 := eql_ptr_nil R2 c
          have CS := (HBt2.out R2 HBd.out.up.bel).same
          have HCS : Hid (Calls _ _ _ _ _) := CS
          clear CS HCD hd2 hB2' HBt1 HS1 hnc HBt
          generalize R1.heap.size = NN at *
          go_wp2_with fail
          refine HCS.out.mono ?_
          rintro e R3 ⟨rfl, hB3⟩
          have HBd3 : Hid (Bd Wa R3 NN c mc nc dd K K) := HBd.out.below hB3
          clear hB3 HCS HBd hnc2
          go_wp2
          have HBW : Hid (∀ V, Below Wa.heap.size Wa V → Below w.heap.size w V) := fun V hV => HBz.out.trans (hV.mono HBz.out.size)
          go_loopw [16] (fun kv wr => ∃ (i : Nat) (K' : KV), kv = .int .i64 (i : Int) ∧ i ≤ cs.length ∧ Bd Wa wr NN c mc nc dd K' K') (fun kv _ => cs.length - (intOf kv).toNat)
          case atStart => exact ⟨0, _, rfl, Nat.zero_le _, HBd3.out⟩
          case round =>
            obtain ⟨i, K', rfl, hi, hBd⟩ := hrel
            have HBr : Hid (Bd Wa wr NN c mc nc dd K' K') := hBd
            clear hBd HBd3
            by_cases hlt2 : i < cs.length
            · have hlt2' : (i : Int) < (cs.length : Int) := by omega
              have hi0 : (0 : Int) ≤ (i : Int) := by omega
              have HCE : Hid (∀ V, Below w.heap.size w V → ∃ g off, a = some ⟨g, off, none⟩ ∧ g < w.heap.size ∧ CmAt V g (off + i * 6) cs[i]) := fun V hV => by obtain ⟨g, off, e1, e3, e2, _⟩ := (HC.out V hV).at hlt2; exact ⟨g, off, e1, e3, e2⟩
              generalize cs[i] = x at *
              obtain ⟨op, cl, sq, ky, vl, od⟩ := x
              obtain ⟨g2, off, hea, hgw, hcm⟩ := HCE.out wr (HBW.out wr HBr.out.up.bel)
              subst hea
              have HCF : Hid (∀ V, Below w.heap.size w V → CmAt V g2 (off + i * 6) ⟨op, cl, sq, ky, vl, od⟩) := fun V hV => by obtain ⟨g', off', e1, _, e2⟩ := HCE.out V hV; cases e1; exact e2
              obtain ⟨c0, c1, c2, c3, c4, c5⟩ := hcm
              dsimp only at c0 c1 c2 c3 c4 c5
              have CD1 := HBr.out.do1 ⟨op, cl, sq, ky, vl, od⟩
              have HD2 : Hid (∀ V, Bd Wa V NN c mc nc dd (doF K' ⟨op, cl, sq, ky, vl, od⟩).1 K' → Calls _ _ _ V _) := fun V hV => Bd.do2 ⟨op, cl, sq, ky, vl, od⟩ hV
              dsimp only at CD1
              generalize Cm.ck ⟨op, cl, sq, ky, vl, od⟩ = ee at *
              generalize doF K' ⟨op, cl, sq, ky, vl, od⟩ = ddd at *
              obtain ⟨K1, rc, rv⟩ := ddd
              dsimp only at CD1 HD2
              have HCD1 : Hid (Calls _ _ _ _ _) := CD1
              clear CD1 HCE
              go_wp2_with fail
              refine HCD1.out.mono ?_
              rintro e Wd ⟨rfl, hBd, hKd⟩
              have HBd : Hid (Bd Wa Wd NN c mc nc dd K1 K') := hBd
              clear hBd hKd HCD1 c0 c1 c2 c3 c4 c5
              obtain ⟨We, HWe⟩ : ∃ We, Hid (Wd.alloc (.cells #[.int .i64 rc, .string ⟨rv.toArray⟩] 40) = We) := ⟨_, rfl⟩
              have hBe : Below Wd.heap.size Wd We := by rw [← HWe.out]; exact (Below.refl _ _).alloc (Nat.le_refl _) _
              have HRe : Hid (Rb We Wd.heap.size rc rv) := by rw [← HWe.out]; exact Rb.new _ _ _
              have hBDe := HBd.out.below hBe
              obtain ⟨c0, c1, c2, c3, c4, c5⟩ := HCF.out We (HBW.out We hBDe.up.bel)
              dsimp only at c0 c1 c2 c3 c4 c5
              have CD2 := HD2.out We hBDe
              have HCD2 : Hid (Calls _ _ _ _ _) := CD2
              clear CD2 hBe hBDe
              have hwe := HWe.out
              go_wp2_with fail
              clear hwe
              refine HCD2.out.mono ?_
              rintro e Wx ⟨rfl, hBf, hKf⟩
              have HBx : Hid (Bd Wa Wx NN c mc nc dd K1 K1) := hBf
              have HRx : Hid (Rb Wx Wd.heap.size rc rv) := hKf.rb HRe.out
              clear hBf hKf HCD2 HD2 HRe HWe c0 c1 c2 c3 c4 c5 HBd
              obtain ⟨Wf, hWf⟩ : ∃ Wf, Wx.alloc (.cells #[.int .i64 rc, .string ⟨rv.toArray⟩] 40) = Wf := ⟨_, rfl⟩
              have hBxf : Below Wx.heap.size Wx Wf := by rw [← hWf]; exact (Below.refl _ _).alloc (Nat.le_refl _) _
              have HBf : Hid (Bd Wa Wf NN c mc nc dd K1 K1) := HBx.out.below hBxf
              have HR1 : Hid (Rb Wf Wd.heap.size rc rv) := HRx.out.below hBxf
              have HR2 : Hid (Rb Wf Wx.heap.size rc rv) := by rw [← hWf]; exact Rb.new _ _ _
              obtain ⟨s1, s2⟩ := HR1.out.cells
              obtain ⟨s3, s4⟩ := HR2.out.cells
              have l1 : Wd.heap.size < Wf.heap.size := (Array.getElem?_eq_some_iff.1 HR1.out).1
              have l2 : Wx.heap.size < Wf.heap.size := (Array.getElem?_eq_some_iff.1 HR2.out).1
              clear hBxf HBx HRx HCF HR1 HR2
              go_wp2
              exact ⟨⟨i + 1, K1, by go_num, by omega, HBf.out⟩, by simp [intOf]; omega⟩
            · have hlt2' : decide ((i : Int) < (cs.length : Int)) = false := by simp; omega
              have HCS : Hid (Calls _ _ _ _ _) := HBr.out.same
              go_wp2_with fail
              refine HCS.out.mono ?_
              rintro e Wz ⟨rfl, hBz, -⟩
              have HBz2 : Hid (Bd Wa Wz NN c mc nc dd K' K') := hBz
              have HCT : Hid (Calls _ _ _ _ _) := (HBt2.out Wz hBz.up.bel).same
              clear hBz HCS
              go_wp2_with fail
              refine HCT.out.mono ?_
              rintro e Wy ⟨rfl, hBy⟩
              have HBy : Hid (Below w.heap.size w Wy) := HBW.out Wy (HBz2.out.up.bel.trans (hBy.mono HBz2.out.up.bel.size))
              clear hBy HCT
              go_wp2
              go_ret
              exact ⟨rfl, HBy.out⟩
end Go.Proofs.YtglhjgfaelfleaaGreat
