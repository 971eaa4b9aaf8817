/-
  The document's network: Spoil.
-/
import Derived.Test.YtefbfjlmhfmiiaaRd
import Derived.Deep.CutRange
namespace Go.Proofs.Ytefbfjlmhfmiiaa
open Go.RowKit
set_option linter.unusedVariables false

set_option maxRecDepth 100000 in
set_option maxHeartbeats 4000000 in
/-- Spoil, refused. -/
theorem RSpoil_no {N : Nat} {S : Nat → Prop} {w : World} {b : Nat} {P : PN} {C : List Pr} (h : Rn N S w b P C) (hN : N ≤ w.heap.size) (i bit : Int) (hb63 : bit ≤ 9223372036854775807) (hs : P.spl i bit = false) :
    Calls Try.prog 33 #[.pointer (some ⟨b, 0, none⟩), .int .i64 i, .int .i64 bit] w fun r w' => r = .returned (.bool false) ∧ RTh N S w w' b (P.spoil i bit) C := by
  have hbw := h.inn _ h.Sb
  have HAT : Hid (Calls _ _ _ _ _) := there_any h i
  have HT : Hid (RTh N S w w b (P.spoil i bit) C) := by
    show RTh _ _ _ _ _ _ _
    unfold PN.spoil
    rw [if_neg (by rw [hs]; simp)]
    exact h.th hN (Below.refl _ _)
  by_cases ha : P.at i = true
  · obtain ⟨i0, i1, i2⟩ := PN.at_of ha
    obtain ⟨k, rfl⟩ : ∃ k : Nat, i = (k : Int) := ⟨i.toNat, i2.symm⟩
    simp only [Int.toNat_natCast] at i1
    clear i2
    obtain ⟨va, vc, es, ca, cn, hm, hl, hvc, hvm, -, -, hv1, hv2, -⟩ := h.cells
    have hkl : k < es.length := by omega
    obtain ⟨e, he⟩ : ∃ e, es.getD k nilMl = e := ⟨_, rfl⟩
    have hat := MlsOw.at (es := es) (by rw [hl]; exact hm.row)
    obtain ⟨g, off, rfl, hg, hcs⟩ := hat.at hkl
    rw [he] at hcs
    have hsy : P.E.getD k nilMa = e.says := by rw [ml_says hm.says k, he]
    have hs' : (!e.s && decide (0 ≤ bit) && decide (bit.toNat / 8 < e.d.length)) = false := by
      unfold PN.spl at hs
      rw [ha, Int.toNat_natCast, hsy] at hs
      have e1 : mS e.says = e.s := rfl
      have e2 : mD e.says = e.d := rfl
      rw [e1, e2] at hs
      simpa using hs
    rw [ha] at HAT
    obtain ⟨⟨-, c65, -, -⟩, -⟩ := cells4 hm.blk
    obtain ⟨e0, e1, e2, e3, e4, -⟩ := hcs
    unfold Ml.x at e3
    have j0 : (0 : Int) ≤ (k : Int) := by omega
    have j1 : (k : Int) < (P.E.length : Int) := by omega
    clear h hm hat hl hv1 hv2 hN hkl he ha i0 i1 hvc hvm hsy hs
    generalize P.E.length = m at *
    cases hes : e.s
    · rw [hes] at e4 hs'
      by_cases hb0 : bit < 0
      · have hb0' : decide (bit < 0) = true := by simpa using hb0
        clear hs'
        go_enter Try.func33, Try.ntmps33
        go_wp2_with fail
        refine HAT.out.mono ?_
        rintro r w1 ⟨rfl, hw⟩
        subst w1
        go_wp2
        go_ret
        exact ⟨rfl, HT.out⟩
      · have hb0' : decide (bit < 0) = false := by simpa using hb0
        obtain ⟨q, rfl⟩ : ∃ q : Nat, bit = (q : Int) := ⟨bit.toNat, by omega⟩
        have hq : e.d.length ≤ q / 8 := by simp at hs'; exact hs'
        have hq' : (e.d.length : Int) ≤ (q : Int) / 8 := by clear hb63; omega
        clear hs' hq
        go_enter Try.func33, Try.ntmps33
        go_wp2_with fail
        refine HAT.out.mono ?_
        rintro r w1 ⟨rfl, hw⟩
        subst w1
        go_wp2
        go_ret
        exact ⟨rfl, HT.out⟩
    · rw [hes] at e4
      clear hs'
      go_enter Try.func33, Try.ntmps33
      go_wp2_with fail
      refine HAT.out.mono ?_
      rintro r w1 ⟨rfl, hw⟩
      subst w1
      go_wp2
      go_ret
      exact ⟨rfl, HT.out⟩
  · have ha' : P.at i = false := by simpa using ha
    rw [ha'] at HAT
    clear h ha ha' hs
    go_enter Try.func33, Try.ntmps33
    go_wp2_with fail
    refine HAT.out.mono ?_
    rintro r w1 ⟨rfl, hw⟩
    subst w1
    go_wp2
    go_ret
    exact ⟨rfl, HT.out⟩


theorem u8_small (p : Nat) (h : p ≤ 128) : IntKind.u8.wrap (p : Int) = (p : Int) := by rw [IntKind.wrap_u8]; omega
theorem mlCells_set2 (es : List Ml) (k : Nat) (e : Ml) (h : k < es.length) (hn : e.n = (es.getD k nilMl).n) (hf : e.f = (es.getD k nilMl).f) (ht : e.t = (es.getD k nilMl).t) (j : Nat) : (mlCells (es.set k e))[j]? = if j = k * 5 + 3 then some e.x else if j = k * 5 + 4 then some (.bool e.s) else (mlCells es)[j]? := by
  induction es generalizing k j with
  | nil => simp at h
  | cons x r ih =>
    cases k with
    | zero =>
      simp only [List.getD_cons_zero] at hn hf ht
      simp only [List.set_cons_zero, mlCells, List.cons_append, List.nil_append, hn, hf, ht]
      match j with
      | 0 => rfl
      | 1 => rfl
      | 2 => rfl
      | 3 => rfl
      | 4 => rfl
      | j + 5 => rw [if_neg (by omega), if_neg (by omega)]; rfl
    | succ k =>
      simp only [List.getD_cons_succ] at hn hf ht
      simp only [List.set_cons_succ, mlCells, List.cons_append, List.nil_append]
      match j with
      | 0 => rw [if_neg (by omega), if_neg (by omega)]; rfl
      | 1 => rw [if_neg (by omega), if_neg (by omega)]; rfl
      | 2 => rw [if_neg (by omega), if_neg (by omega)]; rfl
      | 3 => rw [if_neg (by omega), if_neg (by omega)]; rfl
      | 4 => rw [if_neg (by omega), if_neg (by omega)]; rfl
      | j + 5 =>
        simp only [List.getElem?_cons_succ]
        rw [ih k (by simpa using h) hn hf ht j]
        by_cases hj : j = k * 5 + 3
        · rw [if_pos hj, if_pos (show j + 5 = (k + 1) * 5 + 3 by omega)]
        · by_cases hj4 : j = k * 5 + 4
          · rw [if_neg hj, if_pos hj4, if_neg (show ¬ j + 5 = (k + 1) * 5 + 3 by omega), if_pos (show j + 5 = (k + 1) * 5 + 4 by omega)]
          · rw [if_neg hj, if_neg hj4, if_neg (show ¬ j + 5 = (k + 1) * 5 + 3 by omega), if_neg (show ¬ j + 5 = (k + 1) * 5 + 4 by omega)]

/-- One mail of the row has other data. -/
theorem Rn.spoilt {N : Nat} {S : Nat → Prop} {w w6 : World} {b : Nat} {P : PN} {C : List Pr} {g vn : Nat} {es : List Ml} {ca : Option Addr} {cn : Nat} (h : Rn N S w b P C) (hN : N ≤ w.heap.size)
    (hm : RM w b P C (.slice (some ⟨g, 0, none⟩) P.E.length vn) es (.slice ca C.length cn)) (hv1 : ∀ g', (Value.slice (some ⟨g, 0, none⟩) P.E.length vn).ownBlock = some g' → S g') (hv2 : ∀ e ∈ es, ∀ g, e.x.ownBlock = some g → S g) (hv3 : ∀ g, (Value.slice ca C.length cn).ownBlock = some g → S g)
    {k q : Nat} (hk : k < es.length) (hs : P.spl (k : Int) (q : Int) = true) (hl : es.length = P.E.length) {xa : Option Addr} {xc : Nat} (hB : Below w.heap.size w w6) (hO : Ow w.heap.size w6 (.slice xa (es.getD k nilMl).d.length xc) (flipD (es.getD k nilMl).d q)) :
    RTh N S w ((w6.setCell ⟨g, k * 5 + 3, none⟩ (.slice xa (es.getD k nilMl).d.length xc)).setCell ⟨g, k * 5 + 4, none⟩ (.bool true)) b (P.spoil (k : Int) (q : Int)) C := by
  have hbw := h.inn _ h.Sb
  have hgS := hv1 g rfl
  have hgw := h.inn _ hgS
  have hz := hB.size
  have hgb : g ≠ b := by rintro rfl; exact hm.row.not_at hm.blk (by decide) rfl
  have hm6 : MlsOw 58 0 w6 (.slice (some ⟨g, 0, none⟩) es.length vn) es := by rw [hl]; exact hm.row.below hB
  obtain ⟨g', cur, hge, hgh, hgs, hgc, hgm, hgcc⟩ := hm6.open (by omega)
  cases hge
  obtain ⟨e, he⟩ : ∃ e, es.getD k nilMl = e := ⟨_, rfl⟩
  rw [he] at hO ⊢
  obtain ⟨e', he'⟩ : ∃ e' : Ml, e' = ⟨e.n, e.f, e.t, xa, xc, flipD e.d q, true⟩ := ⟨_, rfl⟩
  have hx' : e'.x = .slice xa e.d.length xc := by rw [he']; unfold Ml.x; simp only; rw [flipD_len]
  have hOg : Out (fun j => j = g) w6 ((w6.setCell ⟨g, k * 5 + 3, none⟩ (.slice xa e.d.length xc)).setCell ⟨g, k * 5 + 4, none⟩ (.bool true)) := ((Out.refl (fun j => j = g) w6).put rfl).put rfl
  have hg9 := heap_set (heap_set hgh (k * 5 + 3) (.slice xa e.d.length xc)) (k * 5 + 4) (.bool true)
  have hb9 := (hOg.block b (by omega) (fun e9 => hgb (show b = g from e9).symm)).trans ((hB.block b hbw).trans hm.blk)
  have hsp : P.spoil (k : Int) (q : Int) = { P with E := P.E.set k (spoilM (P.E.getD k nilMa) q) } := by unfold PN.spoil; rw [if_pos hs]; rfl
  have hsl : (es.set k e').length = es.length := by simp
  have hdE : Ow 0 ((w6.setCell ⟨g, k * 5 + 3, none⟩ (.slice xa e.d.length xc)).setCell ⟨g, k * 5 + 4, none⟩ (.bool true)) e'.x e'.d := by
    rw [hx', he']
    exact (hO.base (Nat.zero_le _)).out hOg (by rintro j hj rfl; exact hO.not_at hgh (by decide) hj)
  have hrow : MlsOw 58 0 ((w6.setCell ⟨g, k * 5 + 3, none⟩ (.slice xa e.d.length xc)).setCell ⟨g, k * 5 + 4, none⟩ (.bool true)) (.slice (some ⟨g, 0, none⟩) P.E.length vn) (es.set k e') := by
    have := MlsOw.of (τ := 58) (cap := vn) (fs := es.set k e') hg9 (by simp only [Array.size_setIfInBounds]; exact hgs) hgm (by rw [hsl]; exact hgc) (fun j hj => ?_) (fun f hf => ?_)
    · rw [hsl, hl] at this; exact this
    · rw [hsl] at hj
      rw [mlCells_set2 es k e' hk (by rw [he, he']) (by rw [he, he']) (by rw [he, he']) j]
      simp only [Array.toList_setIfInBounds]
      have hcl : cur.toList.length = vn * 5 := by rw [Array.length_toList, hgs]
      by_cases h4 : j = k * 5 + 4
      · rw [if_neg (by omega), if_pos h4, h4, List.getElem?_set_self (by rw [List.length_set, hcl]; omega), he']
      · rw [List.getElem?_set_ne (by omega)]
        by_cases h3 : j = k * 5 + 3
        · rw [if_pos h3, h3, List.getElem?_set_self (by rw [hcl]; omega), hx']
        · rw [if_neg h3, if_neg h4, List.getElem?_set_ne (by omega), hgcc j hj]
    · rcases mem_set_erase hf with rfl | hf
      · exact hdE
      · have hfe := List.mem_of_mem_eraseIdx hf
        exact (hm6.dat f hfe).out hOg (by rintro j hj rfl; exact (hm6.dat f hfe).not_at hgh (by decide) hj)
  have hOS : Out S w ((w6.setCell ⟨g, k * 5 + 3, none⟩ (.slice xa e.d.length xc)).setCell ⟨g, k * 5 + 4, none⟩ (.bool true)) := (Out.of_below hB).trans hOg (fun j hj _ => by rw [hj]; exact hgS)
  refine h.turn hN hOS (.slice (some ⟨g, 0, none⟩) P.E.length vn) (es.set k e') (.slice ca C.length cn) ⟨by rw [hsp]; exact hb9, hrow, ?_, ?_⟩ (fun j hj => .inl (hv1 j hj)) ?_ (fun j hj => .inl (hv3 j hj)) (PN.spoil_ok h.ok _ _) (h.cok.same' (by rw [hsp]) (by rw [hsp]))
  · rw [hsp, List.map_set, hm.says]
    show P.E.set k e'.says = P.E.set k (spoilM (P.E.getD k nilMa) q)
    rw [ml_says hm.says k, he, he']
    rfl
  · exact (hm.cut.below hB).out hOg (by rintro j hj rfl; exact (hm.cut.below hB).not_at hgh (by decide) hj)
  · intro f hf j hj
    rcases mem_set_erase hf with rfl | hf
    · rw [hx'] at hj
      right
      have h1 := (hO.lt hj).1
      have h2 := (hO.lt hj).2
      simp only [size_set]
      exact ⟨h1, h2⟩
    · exact .inl (hv2 f (List.mem_of_mem_eraseIdx hf) j hj)

set_option maxRecDepth 100000 in
set_option maxHeartbeats 8000000 in
/-- Spoil, done. -/
theorem RSpoil_ok {N : Nat} {S : Nat → Prop} {w : World} {b : Nat} {P : PN} {C : List Pr} (h : Rn N S w b P C) (hN : N ≤ w.heap.size) (i bit : Int) (hb63 : bit ≤ 9223372036854775807) (hs : P.spl i bit = true) :
    Calls Try.prog 33 #[.pointer (some ⟨b, 0, none⟩), .int .i64 i, .int .i64 bit] w fun r w' => r = .returned (.bool true) ∧ RTh N S w w' b (P.spoil i bit) C := by
  have hbw := h.inn _ h.Sb
  have HAT : Hid (Calls _ _ _ _ _) := there_any h i
  have ha : P.at i = true := by simp [PN.spl] at hs; exact hs.1.1.1
  obtain ⟨i0, i1, i2⟩ := PN.at_of ha
  obtain ⟨k, rfl⟩ : ∃ k : Nat, i = (k : Int) := ⟨i.toNat, i2.symm⟩
  simp only [Int.toNat_natCast] at i1
  clear i2
  obtain ⟨va, vn, es, ca, cn, hm, hl, hvc, hvm, -, -, hv1, hv2, hv3⟩ := h.cells
  have hkl : k < es.length := by omega
  obtain ⟨e, he⟩ : ∃ e, es.getD k nilMl = e := ⟨_, rfl⟩
  have hat := MlsOw.at (es := es) (by rw [hl]; exact hm.row)
  obtain ⟨g, off, rfl, hg, hcs⟩ := hat.at hkl
  obtain ⟨g', cur, hge, hgh, hgs, hgc, hgm, hgcc⟩ := MlsOw.open (es := es) (by rw [hl]; exact hm.row) (by omega)
  cases hge
  rw [Nat.zero_add, he] at hcs
  have hsy : P.E.getD k nilMa = e.says := by rw [ml_says hm.says k, he]
  have hs' : (!e.s && decide (0 ≤ bit) && decide (bit.toNat / 8 < e.d.length)) = true := by
    have hs2 := hs
    unfold PN.spl at hs2
    rw [ha, Int.toNat_natCast, hsy] at hs2
    have e1 : mS e.says = e.s := rfl
    have e2 : mD e.says = e.d := rfl
    rw [e1, e2] at hs2
    simpa using hs2
  simp at hs'
  obtain ⟨⟨hes, hb0⟩, hq⟩ := hs'
  obtain ⟨q, rfl⟩ : ∃ q : Nat, bit = (q : Int) := ⟨bit.toNat, by omega⟩
  simp only [Int.toNat_natCast] at hq
  rw [ha] at HAT
  have hdl : e.d.length ≤ 140737488355328 := by have := h.ok.dl _ (getD_memA i1); rw [hsy] at this; exact this
  have HFI : Hid (∀ w6 xa xc, Below w.heap.size w w6 → Ow w.heap.size w6 (.slice xa e.d.length xc) (flipD e.d q) → RTh N S w ((w6.setCell ⟨g, k * 5 + 3, none⟩ (.slice xa e.d.length xc)).setCell ⟨g, k * 5 + 4, none⟩ (.bool true)) b (P.spoil (k : Int) (q : Int)) C) := fun w6 xa xc hB hO => by
    have := h.spoilt (q := q) (xa := xa) (xc := xc) hN hm hv1 hv2 hv3 hkl hs hl hB (by rw [he]; exact hO)
    rw [he] at this
    exact this
  have HBL : Hid (∀ wx, Below w.heap.size w wx → wx.cell? ⟨b, 1, none⟩ = some (.slice (some ⟨g, 0, none⟩) P.E.length vn) ∧ b < wx.heap.size ∧ g < wx.heap.size ∧ (∃ u3, wx.cell? ⟨g, k * 5 + 3, none⟩ = some u3) ∧ (∃ u4, wx.cell? ⟨g, k * 5 + 4, none⟩ = some u4) ∧ wx.frozen? ⟨g, k * 5 + 3, none⟩ = false ∧ wx.frozen? ⟨g, k * 5 + 4, none⟩ = false) := fun wx hB => by
    obtain ⟨⟨-, c1, -, -⟩, -⟩ := cells4 ((hB.block b hbw).trans hm.blk)
    have hgx := (hB.block g hg).trans hgh
    have := hB.size
    refine ⟨c1, by omega, by omega, ⟨_, (hB.cell (p := ⟨g, k * 5 + 3, none⟩) hg).trans hcs.2.2.2.1⟩, ⟨_, (hB.cell (p := ⟨g, k * 5 + 4, none⟩) hg).trans hcs.2.2.2.2.1⟩, by simp [World.frozen?, hgx], by simp [World.frozen?, hgx]⟩
  obtain ⟨c1, -, -, -, -, -, -⟩ := HBL.out w (Below.refl _ _)
  obtain ⟨e0, e1, e2, e3, e4, e5⟩ := hcs
  unfold Ml.x at e3 e5
  rw [hes] at e4
  have hgb : g ≠ b := by rintro rfl; exact hm.row.not_at hm.blk (by decide) rfl
  have HBY : Hid (Calls _ _ _ _ _) := bytes_any w.heap.size _ e.d w e5 (Nat.le_refl _) hdl
  have hqw : wrap64 ((q : Int) / 8) = ((q / 8 : Nat) : Int) := by rw [← quo_cast]; exact (wrap_in _ (Int.natCast_nonneg _) (div_le q hb63)).1
  have hrw : wrap64 ((q : Int) % 8) = ((q % 8 : Nat) : Int) := by rw [← rem_cast]; exact (wrap_in _ (Int.natCast_nonneg _) (mod_le q)).1
  obtain ⟨J, hJ⟩ : ∃ J, q / 8 = J := ⟨_, rfl⟩
  obtain ⟨R, hR⟩ : ∃ R, q % 8 = R := ⟨_, rfl⟩
  have hR8 : R < 8 := hR ▸ Nat.mod_lt _ (by decide)
  have HJ : Hid (q / 8 = J) := hJ
  have HRR : Hid (q % 8 = R) := hR
  rw [hJ] at hqw hq
  rw [hR] at hrw
  have hqd : (q : Int) / 8 = (J : Int) := by rw [← hJ, quo_cast]
  have hqr : (q : Int) % 8 = (R : Int) := by rw [← hR, rem_cast]
  have hq' : (J : Int) < (e.d.length : Int) := Int.ofNat_lt.2 hq
  have j0 : (0 : Int) ≤ (k : Int) := by omega
  have j1 : (k : Int) < (P.E.length : Int) := by omega
  have hb0' : decide ((q : Int) < 0) = false := by simp
  clear h hm hat hl hv1 hv2 hv3 hN hkl ha i0 i1 hvc hvm hsy hs hgh hgs hgc hgm hgcc he hJ hR hb0 hb63 e0 e1 e2 e5
  generalize P.E.length = m at *
  go_enter Try.func33, Try.ntmps33
  go_wp2_with fail
  refine HAT.out.mono ?_
  rintro r w1 ⟨rfl, hw⟩
  subst w1
  go_wp2_with fail
  refine HBY.out.mono ?_
  rintro r w2 ⟨v2, rfl, hO2, hB2⟩
  obtain ⟨xa, xc, hsh, -, -⟩ := hO2.shape
  subst hsh
  have HO2 : Hid (Ow w.heap.size w2 (.slice xa e.d.length xc) e.d) := hO2
  have HB2 : Hid (Below w.heap.size w w2) := hB2
  clear hO2 hB2 HBY HAT c1 e3 e4
  go_wp2_with fail
  go_loopw [8, 9] (fun xv kv wr => ∃ j : Nat, kv = .int .i64 (j : Int) ∧ xv = .int .i64 ((2 ^ j : Nat) : Int) ∧ j ≤ R ∧ wr = w2) (fun _ kv _ => R - (intOf kv).toNat)
  case atStart => exact ⟨0, rfl, rfl, Nat.zero_le _, rfl⟩
  case round =>
    obtain ⟨j, rfl, rfl, hj, hwr⟩ := hrel
    subst hwr
    have hp7 : 2 ^ j ≤ 128 := by
      have : 2 ^ j ≤ 2 ^ 7 := Nat.pow_le_pow_right (by decide) (by omega)
      exact this
    by_cases hjr : j < R
    · have hjr' : (j : Int) < (R : Int) := by omega
      have HPW : Hid (((2 ^ (j + 1) : Nat) : Int) = 2 * ((2 ^ j : Nat) : Int)) := by show _ = _; rw [Nat.pow_succ]; omega
      generalize 2 ^ j = p2 at *
      go_wp2
      exact ⟨⟨j + 1, by go_num, by rw [HPW.out], by omega, by first | rfl | trivial⟩, by simp [intOf]; omega⟩
    · have hje : j = R := by omega
      subst hje
      obtain ⟨D, u9, hDa, hDc, hDf, hDw⟩ := Ow.can HO2.out J hq
      subst hDa
      have hDN : w.heap.size ≤ D := (HO2.out.lt rfl).1
      have hDc' : wr.cell? ⟨D, J, none⟩ = some (encB (e.d.getD J 0)) := by
        obtain ⟨a9, c9, e9, -, -, h9⟩ := HO2.out.sl (Nat.le_refl _)
        cases e9
        obtain ⟨b9, o9, ea9, -, hc9⟩ := h9.resolve_left (by intro hz; rw [hz] at hq; simp at hq)
        cases ea9
        have := hc9 J hq
        rw [Nat.zero_add] at this
        rw [this, List.getD_eq_getElem?_getD]
      have HEN : Hid (Value.int .u8 (bits .xor .u8 ((e.d.getD J 0).toNat : Int) ((2 ^ j : Nat) : Int)) = encB (flipB (e.d.getD J 0) j)) := encB_flip _ hR8
      have HST : Hid (Ow w.heap.size (wr.setCell ⟨D, J, none⟩ (encB (flipB (e.d.getD J 0) j))) (.slice (some ⟨D, 0, none⟩) e.d.length xc) (flipD e.d q) ∧ Below w.heap.size w (wr.setCell ⟨D, J, none⟩ (encB (flipB (e.d.getD J 0) j)))) := by
        refine ⟨?_, HB2.out.trans ((Out.set (X := fun i => i = D) rfl).below HB2.out.size (fun i hi => by have e9 : i = D := hi; omega))⟩
        have := HO2.out.store J (flipB (e.d.getD J 0) j)
        unfold flipD
        rw [HJ.out, HRR.out]
        exact this
      have hcv : IntKind.u8.wrap ((2 ^ j : Nat) : Int) = ((2 ^ j : Nat) : Int) := u8_small _ hp7
      unfold encB at hDc'
      generalize (e.d.getD J 0) = x at *
      obtain ⟨W3, hW3⟩ : ∃ W3, wr.setCell ⟨D, J, none⟩ (encB (flipB x j)) = W3 := ⟨_, rfl⟩
      have HW3 : Hid (wr.setCell ⟨D, J, none⟩ (encB (flipB x j)) = W3) := hW3
      rw [hW3] at HST
      obtain ⟨b1, b2, b3, ⟨u3, b4⟩, ⟨u4, b5⟩, b6, b7⟩ := HBL.out W3 HST.out.2
      have HT : Hid (RTh N S w ((W3.setCell ⟨g, k * 5 + 3, none⟩ (.slice (some ⟨D, 0, none⟩) e.d.length xc)).setCell ⟨g, k * 5 + 4, none⟩ (.bool true)) b (P.spoil (k : Int) (q : Int)) C) := HFI.out W3 _ xc HST.out.2 HST.out.1
      generalize 2 ^ j = p2 at *
      clear HO2 HB2 hDc HFI HST hW3 HBL
      go_upto_region 10 with fail
      rw [HEN.out, HW3.out]
      clear HW3 HEN hDc' hDf hcv
      go_wp2
      go_ret
      exact ⟨rfl, HT.out⟩

/-- Spoil. -/
theorem RSpoil_any {N : Nat} {S : Nat → Prop} {w : World} {b : Nat} {P : PN} {C : List Pr} (h : Rn N S w b P C) (hN : N ≤ w.heap.size) (i bit : Int) (hb63 : bit ≤ 9223372036854775807) :
    Calls Try.prog 33 #[.pointer (some ⟨b, 0, none⟩), .int .i64 i, .int .i64 bit] w fun r w' => r = .returned (.bool (P.spl i bit)) ∧ RTh N S w w' b (P.spoil i bit) C := by
  cases hs : P.spl i bit
  · exact RSpoil_no h hN i bit hb63 hs
  · exact RSpoil_ok h hN i bit hb63 hs
end Go.Proofs.Ytefbfjlmhfmiiaa
