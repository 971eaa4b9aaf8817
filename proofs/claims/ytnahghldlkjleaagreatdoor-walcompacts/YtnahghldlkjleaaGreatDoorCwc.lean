/-
  WalCompacts: the law's walk.
-/
import Derived.Test.YtnahghldlkjleaaGreatDoorCwb
namespace Go.Proofs.YtnahghldlkjleaaGreatDoor
open Go.RowKit
set_option linter.unusedVariables false

theorem wtO_app (a b : List Wop) : wtO (a ++ b) = wtO a + wtO b := by simp [wtO]
theorem ro_tx {N : Nat} {W : World} {g n cap : Nat} {ts : List (List UInt8)} (h : Ro RS N W (.slice (some ⟨g, 0, none⟩) n cap) ts) (r : Nat) : TxAt W (some ⟨g, r, none⟩) (ts.drop r) := by
  refine .inr ⟨g, r, rfl, fun i hi => ?_⟩
  rw [List.length_drop] at hi
  obtain ⟨g', cap', e, -, -, -, hc⟩ := h.at0 (by omega)
  have hg : g = g' := by simp at e; exact e.1
  subst hg
  have h0 := hc (r + i) 0 (by omega) (by decide)
  rw [show (r + i) * RS.k + 0 = r + i by show (r + i) * 1 + 0 = _; omega] at h0
  rw [h0, List.getElem_drop]; rfl
section
variable {w0 : World} {wb d : Nat} {X X2 : WS} {W : World} {bx : Nat} {va : Option Addr} {ca gs cs bx2 : Nat} {vb : Option Addr} {cb gt ct : Nat} {H : List (List Rd)} {T o : Nat} {F : List UInt8 → Option (List UInt8)} {ix : Int} {r g : Nat}
theorem p4_texts (h : P4 w0 wb d X X2 W bx va ca gs cs bx2 vb cb gt ct) (c : Cpd X X2 H T o F ix r g) (hf : X.sg.length ≤ 100000) (V : World) (hV : Below W.heap.size W V) (c' : Nat) :
    Calls Tryz.prog 39 #[.slice (some ⟨gt, 0, none⟩) X2.sg.length ct, .slice (some ⟨gs, r, none⟩) (X.sg.length - r) c'] V fun e V' => e = .returned (.bool true) ∧ Below V.heap.size V V' := by
  obtain ⟨A, es, es2, hq, hA, hB, h1, h2, k1, k2⟩ := h.below hV
  have t2 := ro_tx k2.ro 0
  have t1 := ro_tx k1.ro r
  rw [List.drop_zero] at t2
  rw [← List.map_drop, ← c.sg] at t1
  have hl : (X2.sg.map Sg.nm).length = X2.sg.length := by simp
  have hl2 : X2.sg.length = X.sg.length - r := by rw [c.sg, List.length_drop]
  have := sameTexts_yes V (some ⟨gt, 0, none⟩) (some ⟨gs, r, none⟩) ct c' (X2.sg.map Sg.nm) t2 t1 (by rw [hl, hl2]; omega)
  rw [hl] at this
  rw [← hl2]
  refine this.mono ?_
  rintro e V' ⟨rfl, q, rfl⟩
  exact ⟨rfl, below_drewN (Below.refl _ _) q⟩
theorem p4_va (h : P4 w0 wb d X X2 W bx va ca gs cs bx2 vb cb gt ct) : (va = none ∧ X.J.E.length = 0 ∧ ca = 0) ∨ ∃ ga, va = some ⟨ga, 0, none⟩ ∧ X.J.E.length ≤ ca := by
  obtain ⟨A, es, es2, hq, hA, hB, h1, h2, k1, k2⟩ := h
  have hl : es.length = X.J.E.length := by rw [← h1]; simp
  rcases k1.ow.row.2 with ⟨hv, h0⟩ | ⟨g, cap, cur, hv, -, -, h3, h4, -⟩
  · left
    simp at hv
    exact ⟨hv.1, by rw [hv.2.1]; rfl, hv.2.2⟩
  · right
    simp only [Value.slice.injEq] at hv
    obtain ⟨e1, e2, e3⟩ := hv
    exact ⟨g, e1, by omega⟩
theorem p4_ents (h : P4 w0 wb d X X2 W bx va ca gs cs bx2 vb cb gt ct) (c : Cpd X X2 H T o F ix r g) (hfew : X.J.E.length ≤ 1000000000) (V : World) (hV : Below W.heap.size W V) (a' : Option Addr) (c' : Nat) (ha : X.J.E.length - g = 0 ∨ ∃ ga, va = some ⟨ga, 0, none⟩ ∧ a' = some ⟨ga, g * 4, none⟩) :
    Calls Tryz.prog 40 #[.slice vb X2.J.E.length cb, .slice a' (X.J.E.length - g) c'] V fun e V' => e = .returned (.bool true) ∧ Below V.heap.size V V' := by
  obtain ⟨A, es, es2, hq, hA, hB, h1, h2, k1, k2⟩ := h.below hV
  have hl : es.length = X.J.E.length := by rw [← h1]; simp
  have hl2 : es2.length = X2.J.E.length := by rw [← h2]; simp
  have e2 : EntsAt V.heap.size V vb es2 := EntsOw.at (es := es2) (by rw [hl2]; exact k2.ow)
  have hsd : (es.drop g).map Ent.says = es2.map Ent.says := by rw [List.map_drop, h1, h2, c.E]
  have e1 : EntsAt V.heap.size V a' (es.drop g) := by
    rcases ha with ha | ⟨ga, hva, rfl⟩
    · have : es.drop g = [] := List.drop_eq_nil_of_le (by omega)
      rw [this]; exact EntsAt.nil _ _ _
    · have h9 : EntsAt V.heap.size V va es := EntsOw.at (es := es) (by rw [hl]; exact k1.ow)
      rw [hva] at h9
      have := h9.cut g es.length
      rw [Nat.zero_add, List.take_of_length_le (by rw [List.length_drop]; omega)] at this
      exact this
  have := sameEntries_yes V vb a' cb c' es2 (es.drop g) hsd.symm e2 e1 (by rw [hl2, c.E, List.length_drop]; omega)
  rw [hl2, List.length_drop, hl] at this
  exact this
theorem p4_read (h : P4 w0 wb d X X2 W bx va ca gs cs bx2 vb cb gt ct) (c : Cpd X X2 H T o F ix r g) (V : World) (hV : Below W.heap.size W V) :
    Calls Tryz.prog 41 #[.pointer (some ⟨d, 0, none⟩), .string ⟨(nmL X2.last.n).toArray⟩] V fun e V' => ∃ v, e = .returned (.tuple #[v, .int .i64 0]) ∧ Below V.heap.size V V' := by
  obtain ⟨A, es, es2, hq, hA, hB, h1, h2, k1, k2⟩ := h.below hV
  obtain ⟨S, L, b, sv, k, q⟩ := hq
  refine (read_y q.hd (nmL X2.last.n) (by rw [nmL_len]; unfold maxLen; omega)).mono ?_
  rintro e V' ⟨v, rfl, -, hB'⟩
  refine ⟨v, ?_, hB'⟩
  have h0 : (rdX k.pd (nmL X2.last.n)).2 = 0 := by
    have h9 := c.wi.dat_last
    rw [dat_some] at h9
    rw [q.hp]
    unfold rdX
    cases hl : lookP (nmL X2.last.n) X2.p.fs with
    | none => rw [hl] at h9; cases h9
    | some f => rfl
  rw [h0]; rfl
theorem p4_tlast (h : P4 w0 wb d X X2 W bx va ca gs cs bx2 vb cb gt ct) {k2 : Nat} (hk : X2.sg.length = k2 + 1) (V : World) (hV : Below W.heap.size W V) : V.cell? ⟨gt, k2, none⟩ = some (.string ⟨(nmL X2.last.n).toArray⟩) := by
  obtain ⟨A, es, es2, hq, hA, hB, h1, h2, k1, k22⟩ := h.below hV
  obtain ⟨g', cap', e, -, -, -, hc⟩ := k22.ro.at0 (by simp; omega)
  have hg : gt = g' := by simp at e; exact e.1
  subst hg
  have h0 := hc k2 0 (by simp; omega) (by decide)
  rw [show k2 * RS.k + 0 = k2 by show k2 * 1 + 0 = _; omega] at h0
  have e9 : X2.last = X2.sg[k2]'(by omega) := last_at hk
  rw [h0, List.getElem_map, e9]; rfl
theorem p4_bel (h : P4 w0 wb d X X2 W bx va ca gs cs bx2 vb cb gt ct) : Below w0.heap.size w0 W := by
  obtain ⟨A, es, es2, hq, hA, hB, h1, h2, k1, k2⟩ := h
  exact hB
end

set_option maxRecDepth 100000 in
set_option maxHeartbeats 8000000 in
theorem compacts_walk (z : Int) (ea : Option Addr) (ec : Nat) (l : List Wop) (ix : Int) (w : World) (hz : -9223372036854775808 ≤ z ∧ z ≤ 9223372036854775807) (hix : -9223372036854775808 ≤ ix ∧ ix ≤ 9223372036854775807) (hl : WopsAt w.heap.size w ea l) (hll : l.length ≤ 9223372036854775807) (hv : ∀ V, Below w.heap.size w V → Vars V) :
    Calls Tryz.prog 8 #[.int .i64 z, .slice ea l.length ec, .int .i64 ix] w fun e w' => e = .returned (.bool true) ∧ Below w.heap.size w w' := by
  have HF : Hid (Calls _ _ _ _ _) := first_any w (hv w (Below.refl _ w))
  have HSM : Hid (∀ w1, Below w.heap.size w w1 → Calls Tryz.prog 10 #[.slice ea l.length ec] w1 fun e w' => ∃ b : Bool, e = .returned (.bool b) ∧ Hid (b = true → SmallOk l) ∧ Hid (Below w.heap.size w w')) := fun w1 hB => by
    refine (small_any ea ec l w.heap.size w1 (hl.below hB) hB.size hll).mono ?_
    rintro e w' ⟨b, rfl, hs, hB'⟩
    exact ⟨b, rfl, hs, hB.trans (hB'.mono hB.size)⟩
  have HNW : Hid (∀ w2, Below w.heap.size w w2 → Calls Tryz.prog 11 #[] w2 fun e w3 => ∃ d, e = .returned (.pointer (some ⟨d, 0, none⟩)) ∧ Hid (∀ n : Nat, 64 ≤ n → n ≤ 1048576 → Calls Tryz.prog 30 #[.pointer (some ⟨d, 0, none⟩), .int .i64 (n : Int)] w3 fun e w' => ∃ wb, e = .returned (.tuple #[.pointer (some ⟨wb, 0, none⟩), .bool false, .int .i64 0]) ∧ Hid (Cwi w w' wb d n 0 0))) := fun w2 hB => by
    refine (first_new w2).mono ?_
    rintro e w3 ⟨d, rfl, h⟩
    refine ⟨d, rfl, fun n h1 h2 => ?_⟩
    refine (wv_open (hv w2 hB) h.out n ⟨h1, h2⟩).mono ?_
    rintro e w' ⟨wb, rfl, h9⟩
    refine ⟨wb, rfl, cwi_open ⟨⟨?_, hB.trans (h9.nw.B.mono hB.size)⟩, h9.wi⟩⟩
    obtain ⟨A, q1, q2⟩ := h9.nw.q
    exact ⟨A, q1, fun i hi => Nat.le_trans hB.size (q2 i hi)⟩
  have HL : Hid (WopsAt w.heap.size w ea l) := hl
  clear hv hl
  go_enter Tryz.func8, Tryz.ntmps8
  go_upto_region 3 with (first
    | (go_at_call 9; refine Calls.mono HF.out ?_; rintro e w1 ⟨rfl, hB1⟩; have HB1 : Hid _ := hB1; clear hB1)
    | (go_at_call 10; refine Calls.mono (HSM.out w1 HB1.out) ?_; rintro e w2 ⟨b, rfl, HS, HB2⟩)
    | fail)
  by_cases hb : b = true ∧ 64 ≤ z ∧ z ≤ 1048576
  · obtain ⟨rfl, hz1, hz2⟩ := hb
    obtain ⟨n, rfl⟩ : ∃ n : Nat, z = (n : Int) := ⟨z.toNat, by omega⟩
    obtain ⟨q1, q2, q3⟩ := HS.out rfl
    have d1 : decide ((n : Int) < 64) = false := by simp; omega
    have d2 : decide ((n : Int) > 1048576) = false := by simp; omega
    have hn1 : 64 ≤ n := by omega
    have hn2 : n ≤ 1048576 := by omega
    have HQ2 : Hid (∀ o ∈ l, o.B.es.length ≤ 200) := q2
    have HQ3 : Hid (wtO l ≤ 20000) := q3
    clear HS HF HSM q2 q3 hz hz1 hz2
    go_wp2_with (first
      | (go_at_call 11; refine Calls.mono (HNW.out w2 HB2.out) ?_; rintro e w3 ⟨d, rfl, HO⟩)
      | (go_at_call 30; refine Calls.mono (HO.out n hn1 hn2) ?_; rintro e w4 ⟨wb, rfl, HC0⟩)
      | fail)
    clear HNW HO
    go_loopw [13] (fun v13 wr => ∃ i : Nat, v13 = .int .i64 (i : Int) ∧ i ≤ l.length ∧ Hid (Cwi w wr wb d n i (wtO (l.take i)))) (fun i _ => l.length - (intOf i).toNat)
    case atStart => exact ⟨0, rfl, Nat.zero_le _, HC0.out⟩
    case round =>
      obtain ⟨i, rfl, hi, HC⟩ := hrel
      by_cases hlt : i < l.length
      · have HST : Hid (wtO (l.take (i + 1)) = wtO (l.take i) + wtE (l.getD i nilWop).B.es) := wtO_step hlt
        have HT : Hid (wtO (l.take (i + 1)) ≤ 20000) := by
          show _ ≤ _
          refine Nat.le_trans ?_ HQ3.out
          have e8 := wtO_app (l.take (i + 1)) (l.drop (i + 1))
          rw [List.take_append_drop] at e8
          omega
        have HLE : Hid ((l.getD i nilWop).B.es.length ≤ 200) := HQ2.out _ (by rw [List.getD_eq_getElem?_getD, List.getElem?_eq_getElem hlt]; exact List.getElem_mem hlt)
        have HB4 : Hid (Below w.heap.size w wr) := by obtain ⟨X, H, h9, -⟩ := HC.out; exact h9.nw.B
        obtain ⟨b, off, rfl, hb, ho⟩ := HL.out.at hlt
        have ho0 := ho
        obtain ⟨⟨c0, c1, c2, c3, c4, c5, c6, c7, c8⟩, -, hcp1, hcp2⟩ := ho.below hb HB4.out
        obtain ⟨O, hO⟩ : ∃ O, l.getD i nilWop = O := ⟨_, rfl⟩
        rw [hO] at HST HLE ho0 c0 c1 c2 c3 c4 c5 c6 c7 c8 hcp1 hcp2
        have HAP : Hid (Calls Tryz.prog 34 #[.pointer (some ⟨wb, 0, none⟩), .agg #[.bool O.B.has, .int .i64 O.B.t, .int .i64 O.B.v, .int .i64 O.B.c, .int .i64 O.B.i, .int .i64 O.B.tm, .slice O.B.a O.B.es.length O.B.cp]] wr fun e w' => ∃ k : Nat, e = .returned (.int .i64 (k : Int)) ∧ Hid (Cwi w w' wb d n (i + 1) (wtO (l.take (i + 1))))) := by
          have h9 := cwi_append HC.out O.B ho0.2.1 ⟨hcp1, hcp2⟩ HLE.out (by omega) (by have := HST.out; have := HT.out; omega)
          rw [← HST.out] at h9
          exact h9
        have HSK : Hid (Cwi w wr wb d n (i + 1) (wtO (l.take (i + 1)))) := by
          have h9 := HC.out.skip (Below.refl _ wr) (wtE O.B.es)
          rw [← HST.out] at h9
          exact h9
        have k0 : (0 : Int) ≤ (i : Int) := by omega
        have k1 : (i : Int) < (l.length : Int) := by omega
        clear HC HST HT HLE HB4 ho ho0 hb hcp1 hcp2 hO HL HQ2 HQ3 HC0
        by_cases hk : O.k = 0
        · rw [hk] at c0
          generalize O.B.es.length = bl at *
          go_wp2_with (first
            | (go_at_call 34; refine Calls.mono HAP.out ?_; rintro e w5 ⟨k, rfl, HC5⟩)
            | fail)
          exact ⟨⟨i + 1, by go_num, by omega, HC5.out⟩, by simp [intOf]; omega⟩
        · have hk2 : (O.k == 0) = false := by simpa using hk
          go_wp2_with fail
          exact ⟨⟨i + 1, by go_num, by omega, HSK.out⟩, by simp [intOf]; omega⟩
      · have hil : i = l.length := by omega
        subst hil
        obtain ⟨X, H, hv, s1, s2, s3, s4⟩ := HC.out
        have hb1 := HQ3.out
        have hta : l.take l.length = l := List.take_length
        rw [hta] at hv s3
        have hwi := hv.wi
        have hok := hwi.good.ok
        have hf : X.sg.length ≤ 100000 := by omega
        have hE9 : X.J.E.length ≤ 1000000000 := by omega
        have hp0 := List.length_pos_iff.2 hwi.ne
        obtain ⟨A0, hq0, hA0⟩ := hv.nw.q
        have HV1 : Hid (Calls Tryz.prog 32 #[.pointer (some ⟨wb, 0, none⟩)] wr fun e w1 => ∃ va ca, e = .returned (.agg #[.int .i64 X.J.t, .int .i64 X.J.v, .int .i64 X.J.c, .int .i64 X.J.bi, .int .i64 X.J.bt, .slice va X.J.E.length ca]) ∧ Hid (Pv wr w1 X.J.E va ca)) := view_pv hq0
        have HS1 : Hid (∀ w1 va ca, Pv wr w1 X.J.E va ca → Calls Tryz.prog 33 #[.pointer (some ⟨wb, 0, none⟩)] (w1.alloc (.cells #[.int .i64 X.J.t, .int .i64 X.J.v, .int .i64 X.J.c, .int .i64 X.J.bi, .int .i64 X.J.bt, .slice va X.J.E.length ca] 74)) fun e w3 => ∃ gs cs, e = .returned (.slice (some ⟨gs, 0, none⟩) X.sg.length cs) ∧ X.sg.length ≤ cs ∧ Hid (P1 w wb d X X w3 w1.heap.size va ca gs cs)) := fun w1 va ca hp => p1_made hv hf hp
        have hb0 := hok.b0
        have htop := hok.top
        have hli : X.J.li = X.J.bi + (X.J.E.length : Int) := rfl
        unfold Rng at hb0
        have hwL : IntKind.i64.wrap (X.J.bi + (X.J.E.length : Int)) = X.J.bi + (X.J.E.length : Int) := by rw [IntKind.wrap_i64]; omega
        by_cases hin : 0 ≤ ix ∧ ix ≤ X.J.bi + (X.J.E.length : Int)
        · obtain ⟨X2, r, g, c, hcall⟩ := wl_compact (wb := wb) (d := d) hwi hf ix hin.1 (by rw [hli]; exact hin.2)
          have HC2 : Hid (∀ w3 bx va ca gs cs, P1 w wb d X X w3 bx va ca gs cs → Calls Tryz.prog 20 #[.pointer (some ⟨wb, 0, none⟩), .int .i64 ix] w3 fun e w4 => e = .returned (.tuple #[.int .i64 (r : Int), .int .i64 0]) ∧ Hid (P1 w wb d X X2 w4 bx va ca gs cs)) := fun w3 bx va ca gs cs h => by
            obtain ⟨A, es, hq, hA, hB, hs, k⟩ := h
            refine (hcall A w3 hq).mono ?_
            rintro e w4 ⟨rfl, hT⟩
            exact ⟨rfl, P1.th (X1 := X) hA hB hs k hT⟩
          have hsgl : X2.sg.length = X.sg.length - r := by rw [c.sg, List.length_drop]
          have hrl := c.rl
          have hgl := c.gl
          have hgx := c.gx
          have hbi := c.bi
          have hEl : X2.J.E.length = X.J.E.length - g := by rw [c.E, List.length_drop]
          have HV2 : Hid (∀ w4 bx va ca gs cs, P1 w wb d X X2 w4 bx va ca gs cs → Calls Tryz.prog 32 #[.pointer (some ⟨wb, 0, none⟩)] w4 fun e w5 => ∃ vb cb, e = .returned (.agg #[.int .i64 X.J.t, .int .i64 X.J.v, .int .i64 X.J.c, .int .i64 X2.J.bi, .int .i64 X2.J.bt, .slice vb X2.J.E.length cb]) ∧
            Hid (Calls Tryz.prog 33 #[.pointer (some ⟨wb, 0, none⟩)] (w5.alloc (.cells #[.int .i64 X.J.t, .int .i64 X.J.v, .int .i64 X.J.c, .int .i64 X2.J.bi, .int .i64 X2.J.bt, .slice vb X2.J.E.length cb] 74)) fun e w7 => ∃ gt ct, e = .returned (.slice (some ⟨gt, 0, none⟩) X2.sg.length ct) ∧ Hid (X2.sg.length ≤ ct ∧ P4 w wb d X X2 w7 bx va ca gs cs w5.heap.size vb cb gt ct))) := fun w4 bx va ca gs cs h => by
            have h9 := p3_made h c.wi (by omega)
            unfold vwC at h9
            rw [c.st.1, c.st.2.1, c.st.2.2] at h9
            exact h9
          have HL2 : Hid (∀ w7 bx va ca gs cs bx2 vb cb gt ct, P4 w wb d X X2 w7 bx va ca gs cs bx2 vb cb gt ct → Calls Tryz.prog 38 #[.pointer (some ⟨wb, 0, none⟩)] w7 fun e w8 => e = .returned (.tuple #[.int .i64 (X.J.bi + (X.J.E.length : Int)), .int .i64 X2.J.lt]) ∧ (w8.cell? ⟨bx, 0, none⟩ = some (.int .i64 X.J.t) ∧ w8.cell? ⟨bx, 1, none⟩ = some (.int .i64 X.J.v) ∧ w8.cell? ⟨bx, 2, none⟩ = some (.int .i64 X.J.c) ∧ w8.cell? ⟨bx, 3, none⟩ = some (.int .i64 X.J.bi) ∧ w8.cell? ⟨bx, 5, none⟩ = some (.slice va X.J.E.length ca)) ∧ (w8.cell? ⟨bx2, 0, none⟩ = some (.int .i64 X.J.t) ∧ w8.cell? ⟨bx2, 1, none⟩ = some (.int .i64 X.J.v) ∧ w8.cell? ⟨bx2, 2, none⟩ = some (.int .i64 X.J.c) ∧ w8.cell? ⟨bx2, 3, none⟩ = some (.int .i64 X2.J.bi) ∧ w8.cell? ⟨bx2, 5, none⟩ = some (.slice vb X2.J.E.length cb)) ∧ Hid (P4 w wb d X X2 w8 bx va ca gs cs bx2 vb cb gt ct)) := fun w7 bx va ca gs cs bx2 vb cb gt ct h => by
            refine (p4_last h).mono ?_
            rintro e w8 ⟨rfl, h8⟩
            obtain ⟨⟨a0, a1, a2, a3, a4, a5⟩, b0, b1, b2, b3, b4, b5⟩ := p4_cells h8
            rw [c.st.1] at b0
            rw [c.st.2.1] at b1
            rw [c.st.2.2] at b2
            exact ⟨by rw [c.li, hli], ⟨a0, a1, a2, a3, a5⟩, ⟨b0, b1, b2, b3, b5⟩, h8⟩
          have HTX : Hid (∀ w8 bx va ca gs cs bx2 vb cb gt ct, P4 w wb d X X2 w8 bx va ca gs cs bx2 vb cb gt ct → ∀ c', Calls Tryz.prog 39 #[.slice (some ⟨gt, 0, none⟩) X2.sg.length ct, .slice (some ⟨gs, r, none⟩) (X.sg.length - r) c'] w8 fun e V' => e = .returned (.bool true) ∧ (V'.cell? ⟨bx, 0, none⟩ = some (.int .i64 X.J.t) ∧ V'.cell? ⟨bx, 1, none⟩ = some (.int .i64 X.J.v) ∧ V'.cell? ⟨bx, 2, none⟩ = some (.int .i64 X.J.c) ∧ V'.cell? ⟨bx, 3, none⟩ = some (.int .i64 X.J.bi) ∧ V'.cell? ⟨bx, 5, none⟩ = some (.slice va X.J.E.length ca)) ∧ (V'.cell? ⟨bx2, 0, none⟩ = some (.int .i64 X.J.t) ∧ V'.cell? ⟨bx2, 1, none⟩ = some (.int .i64 X.J.v) ∧ V'.cell? ⟨bx2, 2, none⟩ = some (.int .i64 X.J.c) ∧ V'.cell? ⟨bx2, 3, none⟩ = some (.int .i64 X2.J.bi) ∧ V'.cell? ⟨bx2, 5, none⟩ = some (.slice vb X2.J.E.length cb)) ∧ Hid (P4 w wb d X X2 V' bx va ca gs cs bx2 vb cb gt ct)) := fun w8 bx va ca gs cs bx2 vb cb gt ct h c' => by
            refine (p4_texts h c hf w8 (Below.refl _ _) c').mono ?_
            rintro e V' ⟨rfl, hBV⟩
            have h8 := h.below hBV
            obtain ⟨⟨a0, a1, a2, a3, a4, a5⟩, b0, b1, b2, b3, b4, b5⟩ := p4_cells h8
            rw [c.st.1] at b0
            rw [c.st.2.1] at b1
            rw [c.st.2.2] at b2
            exact ⟨rfl, ⟨a0, a1, a2, a3, a5⟩, ⟨b0, b1, b2, b3, b5⟩, h8⟩
          have d3 : decide (ix < 0) = false := by simp; omega
          have d4 : decide (ix > X.J.bi + (X.J.E.length : Int)) = false := by simp; omega
          have d5 : decide ((X2.sg.length : Int) < 1) = false := by simp; omega
          have d6 : IntKind.i64.wrap ((X.sg.length : Int) - (X2.sg.length : Int)) = (r : Int) := by rw [IntKind.wrap_i64]; omega
          have d7 : decide ((r : Int) < 0) = false := by simp
          have d8 : IntKind.i64.wrap (X2.J.bi - X.J.bi) = (g : Int) := by rw [IntKind.wrap_i64]; omega
          have d9 : decide ((g : Int) < 0) = false := by simp
          have d10 : decide ((g : Int) > (X.J.E.length : Int)) = false := by simp; omega
          have d11 : decide (X2.J.bi > max ix X.J.bi) = false := by simp; omega
          have hrm : r ≤ X.sg.length := by omega
          clear hv s1 s2 s3 s4 hok hq0 hA0 HC HC0 HQ2 HQ3 hb1 HL hb0 htop hp0 hi hlt hta hcall
          have HCc : Hid (Cpd X X2 H (80 + 320 * l.length + 80 * wtO l) 0 (fun _ => none) ix r g) := c
          have HEL : Hid (X2.J.E.length = X.J.E.length - g ∧ g ≤ X.J.E.length ∧ X2.sg.length = X.sg.length - r) := ⟨hEl, hgl, hsgl⟩
          clear c hwi hbi hEl hsgl hgx hli
          go_upto_region 28 with (first
            | (go_at_call 20; refine Calls.mono (HC2.out _ _ _ _ _ _ HP1.out) ?_; rintro e w4 ⟨rfl, HP2⟩)
            | (go_at_call 38; refine Calls.mono (HL2.out _ _ _ _ _ _ _ _ _ _ _ HP4.out.2) ?_; rintro e w8 ⟨rfl, ⟨a0, a1, a2, a3, a5⟩, ⟨e0, e1, e2, e3, e5⟩, HP8⟩)
            | (go_at_call 32; refine Calls.mono (HV2.out _ _ _ _ _ _ HP2.out) ?_; rintro e w5 ⟨vb, cb, rfl, HS5⟩)
            | (go_at_call 32; refine Calls.mono HV1.out ?_; rintro e w1 ⟨va, ca, rfl, HPV⟩)
            | (go_at_call 33; refine Calls.mono HS5.out ?_; rintro e w7 ⟨gt, ct, rfl, HP4⟩)
            | (go_at_call 33; refine Calls.mono (HS1.out w1 va ca HPV.out) ?_; rintro e w3 ⟨gs, cs, rfl, hgc, HP1⟩; have hrc : r ≤ cs := Nat.le_trans hrm hgc; have hcr : ¬ cs = r := Nat.ne_of_gt (Nat.lt_of_lt_of_le hrl hgc))
            | (go_at_call 39; refine Calls.mono (HTX.out _ _ _ _ _ _ _ _ _ _ _ HP8.out _) ?_; rintro e w9 ⟨rfl, ⟨a0, a1, a2, a3, a5⟩, ⟨e0, e1, e2, e3, e5⟩, HP9⟩)
            | (go_at_call 17; refine (num_any _ _).mono ?_; rintro e w9 ⟨rfl, hw9⟩; subst w9)
            | fail)
          obtain ⟨k2, hk2⟩ : ∃ k2, X2.sg.length = k2 + 1 := ⟨X2.sg.length - 1, by have := HEL.out.2.2; omega⟩
          have HTL : Hid (∀ V, Below w9.heap.size w9 V → V.cell? ⟨gt, k2, none⟩ = some (.string ⟨(nmL X2.last.n).toArray⟩)) := fun V hV => p4_tlast HP9.out hk2 V hV
          have HRD : Hid (∀ V, Below w9.heap.size w9 V → Calls Tryz.prog 41 #[.pointer (some ⟨d, 0, none⟩), .string ⟨(nmL X2.last.n).toArray⟩] V fun e V' => ∃ v, e = .returned (.tuple #[v, .int .i64 0]) ∧ Hid (Below w9.heap.size w9 V')) := fun V hV => (p4_read HP9.out HCc.out V hV).mono fun e V' ⟨v, he, hB'⟩ => ⟨v, he, hV.trans (hB'.mono hV.size)⟩
          have HEN : Hid (∀ (a' : Option Addr) (c' : Nat), (X.J.E.length - g = 0 ∨ ∃ ga, va = some ⟨ga, 0, none⟩ ∧ a' = some ⟨ga, g * 4, none⟩) → ∀ V, Below w9.heap.size w9 V → Calls Tryz.prog 40 #[.slice vb X2.J.E.length cb, .slice a' (X.J.E.length - g) c'] V fun e V' => e = .returned (.bool true) ∧ V'.cell? ⟨gt, k2, none⟩ = some (.string ⟨(nmL X2.last.n).toArray⟩) ∧ Hid (Below w9.heap.size w9 V')) := fun a' c' hc V hV => by
            refine (p4_ents HP9.out HCc.out hE9 V hV a' c' hc).mono ?_
            rintro e V' ⟨rfl, hB'⟩
            have h9 := hV.trans (hB'.mono hV.size)
            exact ⟨rfl, HTL.out V' h9, h9⟩
          have HBW : Hid (Below w.heap.size w w9) := p4_bel HP9.out
          have hwm : IntKind.i64.wrap ((X2.sg.length : Int) - 1) = (k2 : Int) := by rw [IntKind.wrap_i64]; have := HEL.out.2.2; omega
          have i0 : (0 : Int) ≤ (k2 : Int) := by omega
          have i1 : (k2 : Int) < (X2.sg.length : Int) := by omega
          have hva := p4_va HP9.out
          clear HCc HEL HP9 HP8 HTX HL2 HV2 HC2 HV1 HS1 HTL hk2 d3 d4 d5 d6 d7 d8 d9 d11 hwL hrl hrm hrc hcr hgc
          rcases hva with ⟨rfl, hE0, rfl⟩ | ⟨ga, rfl, hca⟩
          · as_aux_lemma =>
              have hg0 : g = 0 := by omega
              subst hg0
              have HE1 := HEN.out none 0 (.inl (by omega))
              rw [hE0] at HE1 a5
              have HE2 : Hid _ := HE1
              clear HE1 HEN
              simp only [Nat.sub_zero] at HE2
              go_region_law ((try go_simp); (try go_at_call 40); refine Calls.mono (HE2.out _ (by (repeat (first | (with_reducible refine bel_alloc' ?_ _) | (with_reducible refine bel_drew' ?_) | (with_reducible refine bel_drewN' ?_ _))); exact Below.refl _ _)) ?_; rintro e w10 ⟨rfl, kt, HB10⟩)
              all_goals
                go_wp2_with (first
                  | (go_at_call 41; refine Calls.mono (HRD.out w10 HB10.out) ?_; rintro e w11 ⟨v, rfl, HB11⟩)
                  | (go_at_call 17; refine (num_any _ _).mono ?_; rintro e w12 ⟨rfl, hw12⟩; subst w12)
                  | fail)
                go_ret
                exact ⟨by simp, HBW.out.trans (HB11.out.mono HBW.out.size)⟩
          · by_cases hcg : ca = g
            · as_aux_lemma =>
                have HE1 := fun c' => HEN.out (some ⟨ga, 0, none⟩) c' (.inl (by omega))
                have HE2 : Hid _ := HE1
                clear HE1 HEN HP1 HP2 HP4 HPV HS5 d10
                generalize X.J.E.length = nE at *
                have hnE : nE = g := by omega
                clear hgl hca
                subst hnE
                subst hcg
                simp only [Nat.sub_self] at HE2
                go_region_law ((try go_simp); (try go_at_call 40); refine Calls.mono (HE2.out _ _ (by (repeat (first | (with_reducible refine bel_alloc' ?_ _) | (with_reducible refine bel_drew' ?_) | (with_reducible refine bel_drewN' ?_ _))); exact Below.refl _ _)) ?_; rintro e w10 ⟨rfl, kt, HB10⟩)
                all_goals
                  go_wp2_with (first
                    | (go_at_call 41; refine Calls.mono (HRD.out w10 HB10.out) ?_; rintro e w11 ⟨v, rfl, HB11⟩)
                    | (go_at_call 17; refine (num_any _ _).mono ?_; rintro e w12 ⟨rfl, hw12⟩; subst w12)
                    | fail)
                  go_ret
                  exact ⟨by simp, HBW.out.trans (HB11.out.mono HBW.out.size)⟩
            · as_aux_lemma =>
                have hgc : g ≤ ca := by omega
                have HE1 := HEN.out (some ⟨ga, g * 4, none⟩) (ca - g) (.inr ⟨ga, rfl, rfl⟩)
                have HE2 : Hid _ := HE1
                clear HE1 HEN
                go_region_law ((try go_simp); (try go_at_call 40); refine Calls.mono (HE2.out _ (by (repeat (first | (with_reducible refine bel_alloc' ?_ _) | (with_reducible refine bel_drew' ?_) | (with_reducible refine bel_drewN' ?_ _))); exact Below.refl _ _)) ?_; rintro e w10 ⟨rfl, kt, HB10⟩)
                all_goals
                  go_wp2_with (first
                    | (go_at_call 41; refine Calls.mono (HRD.out w10 HB10.out) ?_; rintro e w11 ⟨v, rfl, HB11⟩)
                    | (go_at_call 17; refine (num_any _ _).mono ?_; rintro e w12 ⟨rfl, hw12⟩; subst w12)
                    | fail)
                  go_ret
                  exact ⟨by simp, HBW.out.trans (HB11.out.mono HBW.out.size)⟩
        · have HC2 : Hid (∀ w3 bx va ca gs cs, P1 w wb d X X w3 bx va ca gs cs → Calls Tryz.prog 20 #[.pointer (some ⟨wb, 0, none⟩), .int .i64 ix] w3 fun e w4 => e = .returned (.tuple #[.int .i64 0, .int .i64 1]) ∧ Hid (P1 w wb d X X w4 bx va ca gs cs)) := fun w3 bx va ca gs cs h => p2_err hwi h ix (by omega)
          have HV2 : Hid (∀ w4 bx va ca gs cs, P1 w wb d X X w4 bx va ca gs cs → Calls Tryz.prog 32 #[.pointer (some ⟨wb, 0, none⟩)] w4 fun e w5 => ∃ vb cb, e = .returned (.agg #[.int .i64 X.J.t, .int .i64 X.J.v, .int .i64 X.J.c, .int .i64 X.J.bi, .int .i64 X.J.bt, .slice vb X.J.E.length cb]) ∧
            Hid (Calls Tryz.prog 33 #[.pointer (some ⟨wb, 0, none⟩)] (w5.alloc (.cells #[.int .i64 X.J.t, .int .i64 X.J.v, .int .i64 X.J.c, .int .i64 X.J.bi, .int .i64 X.J.bt, .slice vb X.J.E.length cb] 74)) fun e w7 => ∃ gt ct, e = .returned (.slice (some ⟨gt, 0, none⟩) X.sg.length ct) ∧ Hid (X.sg.length ≤ ct ∧ P4 w wb d X X w7 bx va ca gs cs w5.heap.size vb cb gt ct))) := fun w4 bx va ca gs cs h => p3_made h hwi hf
          have HL2 : Hid (∀ w7 bx va ca gs cs bx2 vb cb gt ct, P4 w wb d X X w7 bx va ca gs cs bx2 vb cb gt ct → Calls Tryz.prog 38 #[.pointer (some ⟨wb, 0, none⟩)] w7 fun e w8 => e = .returned (.tuple #[.int .i64 X.J.li, .int .i64 X.J.lt]) ∧ w8.cell? ⟨bx, 3, none⟩ = some (.int .i64 X.J.bi) ∧ w8.cell? ⟨bx, 5, none⟩ = some (.slice va X.J.E.length ca) ∧ Hid (Below w.heap.size w w8)) := fun w7 bx va ca gs cs bx2 vb cb gt ct h => by
            refine (p4_last h).mono ?_
            rintro e w8 ⟨rfl, h8⟩
            exact ⟨rfl, (p4_cells h8).1.2.2.2.1, (p4_cells h8).1.2.2.2.2.2, p4_bel h8⟩
          have hdd : decide (ix < 0) = true ∨ (decide (ix < 0) = false ∧ decide (ix > X.J.bi + (X.J.E.length : Int)) = true) := by
            by_cases h0 : ix < 0
            · exact .inl (by simpa using h0)
            · exact .inr ⟨by simpa using h0, by simp; omega⟩
          have hmm : ((X.sg.length : Int) == (X.sg.length : Int)) = true := by simp
          clear hv s1 s2 s3 s4 hwi hok hq0 hA0 HC HC0 HQ2 HQ3 hb1 HL hin hb0 htop hf hE9 hp0 hi hlt hta
          generalize X.J.li = li at *
          generalize X.J.lt = lt at *
          rcases hdd with d3 | ⟨d3, d4⟩
          all_goals as_aux_lemma =>
            go_wp2_with (first
              | (go_at_call 20; refine Calls.mono (HC2.out _ _ _ _ _ _ HP1.out) ?_; rintro e w4 ⟨rfl, HP2⟩)
              | (go_at_call 38; refine Calls.mono (HL2.out _ _ _ _ _ _ _ _ _ _ _ HP4.out.2) ?_; rintro e w8 ⟨rfl, k3, k5, HB8⟩)
              | (go_at_call 32; refine Calls.mono (HV2.out _ _ _ _ _ _ HP2.out) ?_; rintro e w5 ⟨vb, cb, rfl, HS5⟩)
              | (go_at_call 32; refine Calls.mono HV1.out ?_; rintro e w1 ⟨va, ca, rfl, HPV⟩)
              | (go_at_call 33; refine Calls.mono HS5.out ?_; rintro e w7 ⟨gt, ct, rfl, HP4⟩)
              | (go_at_call 33; refine Calls.mono (HS1.out w1 va ca HPV.out) ?_; rintro e w3 ⟨gs, cs, rfl, hgc, HP1⟩)
              | (go_at_call 17; refine (num_any _ _).mono ?_; rintro e w9 ⟨rfl, hw9⟩; subst w9)
              | fail)
            go_ret
            exact ⟨by simp, HB8.out⟩
  · have hd : (b = false) ∨ (b = true ∧ decide (z < 64) = true) ∨ (b = true ∧ decide (z < 64) = false ∧ decide (z > 1048576) = true) := by
      cases b with
      | false => exact .inl rfl
      | true =>
        right
        by_cases h1 : z < 64
        · exact .inl ⟨rfl, by simpa using h1⟩
        · right
          refine ⟨rfl, by simpa using h1, ?_⟩
          simp
          by_cases h2 : z ≤ 1048576
          · exact absurd ⟨rfl, by omega, h2⟩ hb
          · omega
    clear HNW HSM HS HF HL hb
    rcases hd with rfl | ⟨rfl, d1⟩ | ⟨rfl, d1, d2⟩
    · go_wp2
      go_ret
      exact ⟨rfl, HB2.out⟩
    · go_wp2
      go_ret
      exact ⟨rfl, HB2.out⟩
    · go_wp2
      go_ret
      exact ⟨rfl, HB2.out⟩
end Go.Proofs.YtnahghldlkjleaaGreatDoor
