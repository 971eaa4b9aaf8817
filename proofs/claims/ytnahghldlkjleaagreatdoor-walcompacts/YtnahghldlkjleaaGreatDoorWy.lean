/-
  append.
-/
import Derived.Test.YtnahghldlkjleaaGreatDoorWT
namespace Go.Proofs.YtnahghldlkjleaaGreatDoor
open Go.RowKit
set_option linter.unusedVariables false

theorem Txs.sls {N : Nat} {w : World} {v : Value} {ps : List Tx} (h : Txs N w v ps) : Fr.Sls w.heap.size w v (ps.map fun p => p.2.2) := by
  obtain ⟨a, c, rfl, h1, h2⟩ := h.row.shape
  refine ⟨a, c, by simp, by simpa using h1, h2, ?_⟩
  by_cases hz : ps.length = 0
  · left; simp [List.length_eq_zero_iff.1 hz]
  · obtain ⟨g, cap, he, -, hg, -, hc⟩ := h.row.at0 (by omega)
    cases he
    refine .inr ⟨g, 0, rfl, hg, fun i hi => ?_⟩
    have hi' : i < ps.length := by simpa using hi
    have h3 := hc i 0 hi' (by decide)
    refine ⟨ps[i].v, ?_, ?_⟩
    · rw [show i * RP.k + 0 = 0 + i by show i * 1 + 0 = _; omega] at h3
      exact h3
    · have := (h.dat ps[i] (List.getElem_mem hi')).sl (M := w.heap.size) (Nat.le_refl _)
      have h4 : (ps.map fun p => p.2.2)[i]?.getD [] = ps[i].2.2 := by simp [hi']
      rw [h4]
      exact this
theorem Ow.slx {S : Nat → Prop} {N : Nat} {W : World} {v : Value} {l : List UInt8} (h : Ow N W v l) (hS : ∀ i, S i → i < N) : SlX S W v l := by
  obtain ⟨a, cap, rfl, h1, h2, h3⟩ := h.sl (M := W.heap.size) (Nat.le_refl _)
  refine ⟨a, cap, rfl, h1, h2, h3.imp id ?_⟩
  rintro ⟨b, off, rfl, hb, hc⟩
  exact ⟨b, off, rfl, fun hs => by have := (h.lt (g := b) rfl).1; have := hS b hs; omega, hb, hc⟩

theorem bel_grown {w W w' : World} {v : Value} (hB : Below w.heap.size w W) (g : W.grownBy w' v.ownBlock) (h : ∀ g, v.ownBlock = some g → w.heap.size ≤ g) : Below w.heap.size w w' :=
  hB.trans ⟨g.os, g.tape, g.output, g.size, fun i hi => g.block i (Nat.lt_of_lt_of_le hi hB.size) (fun e => by have := h i e.symm; omega)⟩

set_option maxRecDepth 100000 in
set_option maxHeartbeats 4000000 in
theorem appendW_any {A : Nat → Prop} {w : World} {wb d : Nat} {X : WS} (h : Wl A w wb d X) (hn : X.sg ≠ []) (hfew : X.sg.length ≤ 1000000000) (hl : X.last.n ≤ 99999999) (hb : X.last.b ≤ 1000000000000) (rs : List Rd) (ra : Option Addr) (rc : Nat) (hrs : RdsAt w ra rs) (hrc : rs.length ≤ rc ∧ rc ≤ maxLen)
    (hnum : ∀ r ∈ rs, r.Num) (hdat : ∀ r ∈ rs, Sl w.heap.size w r.e.x r.e.d) (hlen : rs.length ≤ 1000) (p' : PD) (hx : doAppend X.p (nmL X.last.n) (txsB rs) = (0, p')) :
    Calls Tryz.prog 119 #[.pointer (some ⟨wb, 0, none⟩), .slice ra rs.length rc] w fun e w' => e = .returned (.tuple #[]) ∧ Wth A w w' wb d (WS.grow { X with p := p' } (txsB rs).length) := by
  have hrl := hrc.1
  have hrm := hrc.2
  unfold maxLen at hrm
  have HRS : Hid (∀ W, Below w.heap.size w W → RdsAt W ra rs) := fun W hB => hrs.below hB
  have HTX : Hid (∀ (k : Nat) (hk : k < rs.length) W, Below w.heap.size w W → Calls Tryz.prog 172 #[rs[k].val] W fun e w' => ∃ ua uc, e = .returned (.slice ua (rs[k]).tx.length uc) ∧ Ow W.heap.size w' (.slice ua (rs[k]).tx.length uc) (rs[k]).tx ∧ Below W.heap.size W w') := fun k hk W hB => by
    refine (textOf_any rs[k] (hnum _ (List.getElem_mem hk)) W (((hdat _ (List.getElem_mem hk)).below hB).mono hB.size)).mono ?_
    rintro e w' ⟨u, rfl, hO, hB'⟩
    obtain ⟨a, c, rfl, -⟩ := hO.shape
    exact ⟨a, c, rfl, hO, hB'⟩
  have HJ : Hid (∀ W N v (ps : List Tx), Txs N W v ps → ps.map (fun p => p.2.2) = rs.map Rd.tx → Calls Tryz.prog 173 #[v] W fun e w' => ∃ ua uc, e = .returned (.tuple #[.slice ua (txsB rs).length uc, .int .i64 0]) ∧ Ow W.heap.size w' (.slice ua (txsB rs).length uc) (txsB rs) ∧ Below W.heap.size W w') := fun W N v ps hp he => by
    have h1 := hp.sls
    rw [he] at h1
    have hal := anyLong_rs hnum
    have hbl := txsB_len hnum
    refine (Fr.join_any W.heap.size v (rs.map Rd.tx) W h1 (Nat.le_refl _) (fun _ => by show (txsB rs).length ≤ _; omega)).mono ?_
    rintro e w' ⟨u, rfl, hO, hB'⟩
    unfold Fr.joinR at hO ⊢
    rw [if_neg (by rw [hal]; decide)] at hO ⊢
    have hO' : Ow W.heap.size w' u (txsB rs) := hO
    obtain ⟨a, c, rfl, -⟩ := hO'.shape
    exact ⟨a, c, rfl, hO', hB'⟩
  have hbl : (txsB rs).length ≤ 10000000 := by have := txsB_len hnum; omega
  obtain ⟨S, L, b, sv, k, h⟩ := h
  obtain ⟨n, hn⟩ : ∃ n, X.sg.length = n + 1 := ⟨X.sg.length - 1, by have := List.length_pos_iff.2 hn; omega⟩
  obtain ⟨g, cap, hsv, hg, hAg, ⟨cur, hcur⟩, s0, s1⟩ := h.at_last hn
  subst hsv
  have hw := h.hw
  obtain ⟨⟨c0, c1, c2, c3, c4⟩, -⟩ := cells5w hw
  have wlt := (Array.getElem?_eq_some_iff.1 hw).1
  have HC : Hid (∀ V, Below w.heap.size w V → V.cell? ⟨wb, 0, none⟩ = some (.pointer (some ⟨d, 0, none⟩)) ∧ V.cell? ⟨g, n * 2, none⟩ = some (.int .i64 (X.last.n : Int)) ∧ V.cell? ⟨g, n * 2 + 1, none⟩ = some (.int .i64 (X.last.b : Int))) := fun V hB =>
    ⟨(hB.cell (p := ⟨wb, 0, none⟩) wlt).trans c0, (hB.cell (p := ⟨g, n * 2, none⟩) hg).trans s0, (hB.cell (p := ⟨g, n * 2 + 1, none⟩) hg).trans s1⟩
  have HLS : Hid (∀ W, Below w.heap.size w W → Calls Tryz.prog 94 #[.pointer (some ⟨wb, 0, none⟩)] W fun e w' => e = .returned (.pointer (some ⟨g, n * 2, none⟩)) ∧ ∃ q, w' = W.drewN q) := fun W hB =>
    lastSeg_any W wb g n cap ((hB.cell (p := ⟨wb, 2, none⟩) wlt).trans c2) (by omega)
  have HNM : Hid (∀ W, Below w.heap.size w W → Calls Tryz.prog 78 #[.agg #[.int .i64 (X.last.n : Int), .int .i64 (X.last.b : Int)]] W fun e w' => e = .returned (.string ⟨(nmL X.last.n).toArray⟩) ∧ Below w.heap.size w w' ∧ Below W.heap.size W w') := fun W hB =>
    (segName_any X.last.n X.last.b hl W ((h.below hB).vr W (Out.refl _ _))).mono fun e w' ⟨he, h2⟩ => ⟨he, hB.trans (h2.mono hB.size), h2⟩
  have HAP : Hid (∀ W ua uc, Below w.heap.size w W → Ow w.heap.size W (.slice ua (txsB rs).length uc) (txsB rs) → Calls Tryz.prog 174 #[.pointer (some ⟨d, 0, none⟩), .string ⟨(nmL X.last.n).toArray⟩, .slice ua (txsB rs).length uc] W fun e w' => e = .returned (.int .i64 0) ∧ w'.cell? ⟨g, n * 2 + 1, none⟩ = some (.int .i64 (X.last.b : Int)) ∧ w'.frozen? ⟨g, n * 2 + 1, none⟩ = false ∧ Hid (Wth A w (w'.setCell ⟨g, n * 2 + 1, none⟩ (.int .i64 ((X.last.b + (txsB rs).length : Nat) : Int))) wb d (WS.grow { X with p := p' } (txsB rs).length))) := fun W ua uc hB hO => by
    have h1 := h.below hB
    have hsx : SlX S W (.slice ua (txsB rs).length uc) (txsB rs) := hO.slx (fun i hi => h.inn i (h.SA i hi))
    refine (append_any h1.hd (nmL X.last.n) (by rw [nmL_len]; unfold maxLen; omega) ua uc (txsB rs) hsx).mono ?_
    rintro e w' ⟨k', rfl, hA, hp⟩
    rw [h1.hp, hx] at hp
    rw [h1.hp, hx]
    obtain ⟨h2, hO2⟩ := h1.diskO hA
    rw [hp] at h2
    have hT := h2.grown hn (txsB rs).length
    obtain ⟨s2, s3⟩ := (h.sv g rfl).2
    have hcell : w'.heap[g]? = some (.cells cur 135 (0, 0)) := (hA.out.block g (Nat.lt_of_lt_of_le hg hB.size) s2).trans ((hB.block g hg).trans hcur)
    refine ⟨rfl, ?_, by simp [World.frozen?, hcell], ?_⟩
    · rw [← s1]
      simp only [World.cell?, hcell, hcur]
    · exact Wth.of_below ⟨S, L, b, _, k, h⟩ hB (Wth.trans ⟨⟨_, _, _, _, _, h2⟩, hO2⟩ hT)
  have HM : Hid (∀ W, Calls Tryz.prog 92 #[.int .i64 0] W fun e w' => e = .returned (.tuple #[]) ∧ w' = W) := fun W => must_ok W
  have HVL : Hid (∀ (k : Nat) (hk : k < rs.length), rs[k].cells = [.int .i64 (rs[k].k : Int), .int .i64 (rs[k].sg : Int), .int .i64 rs[k].t, .int .i64 rs[k].v, .int .i64 rs[k].c, .int .i64 rs[k].i, .int .i64 rs[k].tm, .int .i64 rs[k].e.t, .int .i64 rs[k].e.i, .int .i64 rs[k].e.k, rs[k].e.x]) := fun k hk => rfl
  have hwb : IntKind.i64.wrap ((X.last.b : Int) + ((txsB rs).length : Int)) = ((X.last.b + (txsB rs).length : Nat) : Int) := by rw [IntKind.wrap_i64]; omega
  clear h hn hfew hl hb hx hw wlt c1 c2 c3 c4 s0 s1 hAg c0 hnum hdat hrs hrc hcur
  generalize nmL X.last.n = nm at *
  generalize X.last.n = ln at *
  generalize X.last.b = lb at *
  generalize WS.grow _ _ = XG at *
  go_enter Tryz.func119, Tryz.ntmps119
  go_wp2_with fail
  go_loopw [4, 12] (fun v4 v12 wr => ∃ (k : Nat) (ps : List Tx), v12 = .int .i64 (k : Int) ∧ k ≤ rs.length ∧ Hid (Txs w.heap.size wr v4 ps) ∧ Hid (ps.map (fun p => p.2.2) = (rs.take k).map Rd.tx) ∧ Hid (Below w.heap.size w wr)) (fun _ i _ => rs.length - (intOf i).toNat)
  case atStart => exact ⟨0, [], rfl, Nat.zero_le _, ⟨Ro.nil _ _ _, by simp⟩, rfl, Below.refl _ _⟩
  case round =>
    obtain ⟨k, ps, rfl, hk, HP, HE, HB⟩ := hrel
    by_cases hlt : k < rs.length
    · have HTX1 := HTX.out k hlt
      have hps : ps.length = k := by
        have := congrArg List.length HE.out
        simp only [List.length_map, List.length_take] at this
        omega
      have HTK : Hid ((rs.take (k + 1)).map Rd.tx = (rs.take k).map Rd.tx ++ [(rs[k]).tx]) := by
        show _ = _
        rw [List.take_succ_eq_append_getElem hlt, List.map_append]; rfl
      rcases HRS.out wr HB.out with h0 | ⟨br, off, hra, hbr, hcells⟩
      · rw [h0] at hlt; simp at hlt
      have hk0 := hcells k hlt 0 (by decide)
      have hk1 := hcells k hlt 1 (by decide)
      have hk2 := hcells k hlt 2 (by decide)
      have hk3 := hcells k hlt 3 (by decide)
      have hk4 := hcells k hlt 4 (by decide)
      have hk5 := hcells k hlt 5 (by decide)
      have hk6 := hcells k hlt 6 (by decide)
      have hk7 := hcells k hlt 7 (by decide)
      have hk8 := hcells k hlt 8 (by decide)
      have hk9 := hcells k hlt 9 (by decide)
      have hk10 := hcells k hlt 10 (by decide)
      simp only [Rd.cells, List.getElem?_cons_zero, List.getElem?_cons_succ, Nat.add_zero] at hk0 hk1 hk2 hk3 hk4 hk5 hk6 hk7 hk8 hk9 hk10
      subst hra
      obtain ⟨r, hr⟩ : ∃ r, rs[k] = r := ⟨_, rfl⟩
      rw [hr] at HTX1 HTK hk0 hk1 hk2 hk3 hk4 hk5 hk6 hk7 hk8 hk9 hk10
      have HTX2 : Hid (∀ W, Below w.heap.size w W → Calls Tryz.prog 172 #[.agg #[.int .i64 (r.k : Int), .int .i64 (r.sg : Int), .int .i64 r.t, .int .i64 r.v, .int .i64 r.c, .int .i64 r.i, .int .i64 r.tm, .int .i64 r.e.t, .int .i64 r.e.i, .int .i64 r.e.k, r.e.x]] W fun e w' => ∃ ua uc, e = .returned (.slice ua r.tx.length uc) ∧ Ow W.heap.size w' (.slice ua r.tx.length uc) r.tx ∧ Below W.heap.size W w') := HTX1
      clear HTX1 HTX HRS HVL HJ hcells HLS HNM HAP HC HM hbr hbl hwb hr
      go_upto_region 3 with fail
      go_cut [6] (fun v6 wx => v6 = .pointer (some ⟨wr.heap.size, 0, none⟩) ∧ Hid (wx.heap[wr.heap.size]? = some (.cells #[.int .i64 (r.k : Int), .int .i64 (r.sg : Int), .int .i64 r.t, .int .i64 r.v, .int .i64 r.c, .int .i64 r.i, .int .i64 r.tm, .int .i64 r.e.t, .int .i64 r.e.i, .int .i64 r.e.k, r.e.x] 177 (0, 0))) ∧ Hid (Below wr.heap.size wr wx))
      case first =>
        as_aux_lemma =>
          clear HTX2 HTK HP HE HB
          unfold Ent.x at *
          go_wp2
          go_meet
          exact ⟨rfl, heap_alloc_new wr _, bel_alloc' (Below.refl _ _) _⟩
      case rest =>
        obtain ⟨hu6, HR, HBc⟩ := hcut
        subst hu6
        have HBw : Hid (Below w.heap.size w wc) := HB.out.trans (HBc.out.mono HB.out.size)
        have HPc : Hid (Txs w.heap.size wc u4 ps) := HP.out.below HBc.out
        obtain ⟨⟨q0, q1, q2, q3, q4, q5, q6, q7, q8, q9, q10⟩, -⟩ := cells11 HR.out
        have HSZ : Hid (w.heap.size ≤ wc.heap.size) := HBw.out.size
        have hps2 : ps.length ≤ 1000000000 := by omega
        clear HB HP HR hk0 hk1 hk2 hk3 hk4 hk5 hk6 hk7 hk8 hk9 hk10 HBc
        go_wp2_with (first
          | (go_at_call 172; refine (HTX2.out _ HBw.out).mono ?_; rintro e w2 ⟨ua, uc, rfl, hO, hB2⟩; have HP2 : Hid (Txs w.heap.size w2 u4 ps) := HPc.out.below hB2; have HO : Hid (Ow w.heap.size w2 (.slice ua r.tx.length uc) r.tx) := hO.base HSZ.out; have HB2 : Hid (Below w.heap.size w w2) := HBw.out.trans (hB2.mono HSZ.out); clear hO hB2)
          | (at_builtin; refine wpList_append_ro RP rfl _ _ rfl w.heap.size u4 ps (ua, uc, r.tx) rfl HP2.out.row (B := w2.heap.size) rfl rfl hps2 HB2.out.size ?_; intro v' w3 g1 g2 g3)
          | fail)
        have HP3 : Hid (Txs w.heap.size w3 v' (ps ++ [(ua, uc, r.tx)])) := HP2.out.push (p := (ua, uc, r.tx)) HO.out (bel_alloc' (Below.refl _ _) _) g1 g2
        have HB3 : Hid (Below w.heap.size w w3) := bel_grown (bel_alloc' HB2.out _) g2 (fun g hg => (HP2.out.row.lt hg).1)
        have HE3 : Hid ((ps ++ [(ua, uc, r.tx)]).map (fun p => p.2.2) = (rs.take (k + 1)).map Rd.tx) := by
          show _ = _
          rw [HTK.out, List.map_append, HE.out]; rfl
        exact ⟨⟨k + 1, _, by go_num, by omega, HP3, HE3, HB3⟩, by simp [intOf]; omega⟩
    · have hke : rs.take k = rs := List.take_of_length_le (by omega)
      have HJ1 : Hid (Calls _ _ _ _ _) := HJ.out wr _ _ ps HP.out (by have := HE.out; rw [hke] at this; exact this)
      clear HTX HRS HVL HJ HP HE hke
      obtain ⟨len, hlen2⟩ : ∃ len, (txsB rs).length = len := ⟨_, rfl⟩
      rw [hlen2] at HJ1 HAP hwb
      have HLN : Hid ((txsB rs).length = len) := hlen2
      clear hlen2 hbl
      have HBR : Hid (Below w.heap.size w wr) := HB
      go_wp2_with (first
        | (go_at_call 173; refine HJ1.out.mono ?_; rintro e w1 ⟨ua, uc, rfl, hO, hB1⟩)
        | (go_at_call 92; refine (HM.out _).mono ?_; rintro e w2 ⟨rfl, hw2⟩; subst w2)
        | fail)
      have hBw1 : Below w.heap.size w w1 := HBR.out.trans (hB1.mono HBR.out.size)
      have HO1 : Hid (∀ W, Below w1.heap.size w1 W → Ow w.heap.size W (.slice ua len uc) (txsB rs)) := fun W hB => (hO.base HBR.out.size).below hB (Nat.le_refl _)
      have HL1 : Hid (∀ W, Below w1.heap.size w1 W → Calls Tryz.prog 94 #[.pointer (some ⟨wb, 0, none⟩)] W fun e w' => e = .returned (.pointer (some ⟨g, n * 2, none⟩)) ∧ Below w1.heap.size w1 w') := fun W hB => (HLS.out W (hBw1.trans (hB.mono hBw1.size))).mono fun e w' ⟨he, q, hq⟩ => ⟨he, by rw [hq]; exact below_drewN hB q⟩
      have HN1 : Hid (∀ W, Below w1.heap.size w1 W → Calls Tryz.prog 78 #[.agg #[.int .i64 (ln : Int), .int .i64 (lb : Int)]] W fun e w' => e = .returned (.string ⟨nm.toArray⟩) ∧ Below w1.heap.size w1 w') := fun W hB => (HNM.out W (hBw1.trans (hB.mono hBw1.size))).mono fun e w' ⟨he, _, h3⟩ => ⟨he, hB.trans (h3.mono hB.size)⟩
      have HA1 : Hid (∀ W, Below w1.heap.size w1 W → Calls Tryz.prog 174 #[.pointer (some ⟨d, 0, none⟩), .string ⟨nm.toArray⟩, .slice ua len uc] W fun e w' => e = .returned (.int .i64 0) ∧ w'.cell? ⟨g, n * 2 + 1, none⟩ = some (.int .i64 (lb : Int)) ∧ w'.frozen? ⟨g, n * 2 + 1, none⟩ = false ∧ Hid (Wth A w (w'.setCell ⟨g, n * 2 + 1, none⟩ (.int .i64 ((lb + len : Nat) : Int))) wb d XG)) := fun W hB => HAP.out W ua uc (hBw1.trans (hB.mono hBw1.size)) (HO1.out W hB)
      have HC1 : Hid (∀ V, Below w1.heap.size w1 V → V.cell? ⟨wb, 0, none⟩ = some (.pointer (some ⟨d, 0, none⟩)) ∧ V.cell? ⟨g, n * 2, none⟩ = some (.int .i64 (ln : Int)) ∧ V.cell? ⟨g, n * 2 + 1, none⟩ = some (.int .i64 (lb : Int))) := fun V hB => HC.out V (hBw1.trans (hB.mono hBw1.size))
      clear HLS HNM HAP HC HO1 hO HB HBR HJ1 hB1 hBw1 HLN
      go_wp2_with (go_at_call 94; refine (HL1.out _ (Below.refl _ _)).mono ?_; rintro e w3 ⟨rfl, hB3⟩; obtain ⟨d0, d1, d2⟩ := HC1.out w3 hB3)
      go_region_law (first
        | (go_simp; go_at_call 78; refine (HN1.out _ ?hb).mono ?_; (case hb => (repeat (first | (with_reducible refine bel_alloc' ?_ _) | (with_reducible refine bel_drew' ?_) | (with_reducible refine bel_drewN' ?_ _))); first | exact Below.refl _ _ | assumption); rintro e w4 ⟨rfl, hB4⟩; obtain ⟨e0, -, -⟩ := HC1.out w4 hB4)
        | (go_simp; go_at_call 174; refine (HA1.out _ ?hb).mono ?_; (case hb => (repeat (first | (with_reducible refine bel_alloc' ?_ _) | (with_reducible refine bel_drew' ?_) | (with_reducible refine bel_drewN' ?_ _))); first | exact Below.refl _ _ | assumption); rintro e w5 ⟨rfl, k5, kf5, HT⟩)
        | (go_simp; go_at_call 92; refine (HM.out _).mono ?_; rintro e w6 ⟨rfl, hw6⟩; subst w6))
      all_goals
        (try go_wp2)
        (try go_end0)
        exact ⟨rfl, HT.out⟩
end Go.Proofs.YtnahghldlkjleaaGreatDoor
