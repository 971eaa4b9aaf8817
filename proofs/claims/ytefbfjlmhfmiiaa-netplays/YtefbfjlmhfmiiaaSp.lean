/-
  Spoil.
-/
import Derived.Test.YtefbfjlmhfmiiaaCp
namespace Go.Proofs.Ytefbfjlmhfmiiaa
open Go.RowKit
set_option linter.unusedVariables false

theorem wrap_in (x : Int) (h0 : 0 ≤ x) (h1 : x ≤ 9223372036854775807) : wrap64 x = x ∧ IntKind.i64.wrap x = x := by
  rw [IntKind.wrap_i64]
  unfold wrap64
  omega
theorem quo_cast (q : Nat) : ((q / 8 : Nat) : Int) = (q : Int) / 8 := by omega
theorem rem_cast (q : Nat) : ((q % 8 : Nat) : Int) = (q : Int) % 8 := by omega
theorem div_le (q : Nat) (h : (q : Int) ≤ 9223372036854775807) : ((q / 8 : Nat) : Int) ≤ 9223372036854775807 := by
  have : q / 8 ≤ q := Nat.div_le_self _ _
  omega
theorem mod_le (q : Nat) : ((q % 8 : Nat) : Int) ≤ 9223372036854775807 := by
  have : q % 8 < 8 := Nat.mod_lt _ (by decide)
  omega

theorem xor_bits : ∀ (R : Fin 8) (x : Fin 256), bits .xor .u8 ((x.val : Nat) : Int) ((2 ^ R.val : Nat) : Int) = ((x.val ^^^ 2 ^ R.val : Nat) : Int) := by decide +kernel
theorem xor_lt : ∀ (R : Fin 8) (x : Fin 256), x.val ^^^ 2 ^ R.val < 256 := by decide +kernel
theorem encB_flip (x : UInt8) {R : Nat} (hR : R < 8) : Value.int .u8 (bits .xor .u8 (x.toNat : Int) ((2 ^ R : Nat) : Int)) = encB (flipB x R) := by
  unfold encB flipB
  have h1 := xor_bits ⟨R, hR⟩ ⟨x.toNat, x.toNat_lt⟩
  have h2 := xor_lt ⟨R, hR⟩ ⟨x.toNat, x.toNat_lt⟩
  simp only at h1 h2
  rw [h1, UInt8.toNat_ofNat_of_lt' h2]
theorem mem_set_erase {α : Type} {l : List α} {k : Nat} {a f : α} (h : f ∈ l.set k a) : f = a ∨ f ∈ l.eraseIdx k := by
  induction l generalizing k with
  | nil => simp at h
  | cons x r ih =>
    cases k with
    | zero => simpa using h
    | succ k =>
      simp only [List.set_cons_succ, List.mem_cons] at h
      simp only [List.eraseIdx_cons_succ, List.mem_cons]
      rcases h with h | h
      · exact .inr (.inl h)
      · exact (ih h).imp id .inr
theorem pairwise_same {es fs : List Ml} (h : es.Pairwise Apt) (he : fs.map Ml.x = es.map Ml.x) : fs.Pairwise Apt := by
  have h1 : (es.map Ml.x).Pairwise (fun u v => ∀ g, u.ownBlock = some g → v.ownBlock ≠ some g) := List.pairwise_map.2 h
  rw [← he] at h1
  exact (List.pairwise_map (f := Ml.x)).1 h1
theorem set_same {α β : Type} (f : α → β) (l : List α) (k : Nat) (a : α) (d : α) (h : f a = f (l.getD k d)) : (l.set k a).map f = l.map f := by
  induction l generalizing k with
  | nil => simp
  | cons x r ih =>
    cases k with
    | zero => simpa using h
    | succ k => simp only [List.set_cons_succ, List.map_cons]; rw [ih k (by simpa using h)]
theorem mlCells_set (es : List Ml) (k : Nat) (e : Ml) (h : k < es.length) (hn : e.n = (es.getD k nilMl).n) (hf : e.f = (es.getD k nilMl).f) (ht : e.t = (es.getD k nilMl).t) (hx : e.x = (es.getD k nilMl).x) (j : Nat) : (mlCells (es.set k e))[j]? = if j = k * 5 + 4 then some (.bool e.s) else (mlCells es)[j]? := by
  induction es generalizing k j with
  | nil => simp at h
  | cons x r ih =>
    cases k with
    | zero =>
      simp only [List.getD_cons_zero] at hn hf ht hx
      simp only [List.set_cons_zero, mlCells, List.cons_append, List.nil_append, hn, hf, ht, hx]
      match j with
      | 0 => rfl
      | 1 => rfl
      | 2 => rfl
      | 3 => rfl
      | 4 => rfl
      | j + 5 => rw [if_neg (by omega)]; rfl
    | succ k =>
      simp only [List.getD_cons_succ] at hn hf ht hx
      simp only [List.set_cons_succ, mlCells, List.cons_append, List.nil_append]
      match j with
      | 0 => rw [if_neg (by omega)]; rfl
      | 1 => rw [if_neg (by omega)]; rfl
      | 2 => rw [if_neg (by omega)]; rfl
      | 3 => rw [if_neg (by omega)]; rfl
      | 4 => rw [if_neg (by omega)]; rfl
      | j + 5 =>
        simp only [List.getElem?_cons_succ]
        rw [ih k (by simpa using h) hn hf ht hx j]
        by_cases hj : j = k * 5 + 4
        · rw [if_pos hj, if_pos (by omega)]
        · rw [if_neg hj, if_neg (by omega)]

theorem shl_one (q R : Nat) (hR : q % 8 = R) : Op.shift BinOp.shl IntKind.u8 1 IntKind.i64 ((q : Int).tmod 8) = pure (.int .u8 ((2 ^ R : Nat) : Int)) := by
  have h1 : (q : Int).tmod 8 = (R : Int) := by
    rw [Int.tmod_eq_emod_of_nonneg (Int.natCast_nonneg _), ← hR]
    exact (rem_cast q).symm
  have h8 : R < 8 := hR ▸ Nat.mod_lt _ (by decide)
  rw [h1]
  clear h1 hR
  match R, h8 with
  | 0, _ => rfl
  | 1, _ => rfl
  | 2, _ => rfl
  | 3, _ => rfl
  | 4, _ => rfl
  | 5, _ => rfl
  | 6, _ => rfl
  | 7, _ => rfl

set_option maxRecDepth 100000 in
set_option maxHeartbeats 4000000 in
/-- Spoil, done. -/
theorem Spoil_ok {N : Nat} {S : Nat → Prop} {w : World} {b : Nat} {P : PN} (h : Nt N S w b P) (hN : N ≤ w.heap.size) (i bit : Int) (hb63 : bit ≤ 9223372036854775807) (hs : P.spl i bit = true) :
    Calls Try.prog 21 #[.pointer (some ⟨b, 0, none⟩), .int .i64 i, .int .i64 bit] w fun r w' => r = .returned (.bool true) ∧ NTh N S w w' b (P.spoil i bit) := by
  have hbw := h.inn _ h.Sb
  have HAT : Hid (Calls _ _ _ _ _) := at_any h i
  have ha : P.at i = true := by simp [PN.spl] at hs; exact hs.1.1.1
  obtain ⟨i0, i1, i2⟩ := PN.at_of ha
  obtain ⟨k, rfl⟩ : ∃ k : Nat, i = (k : Int) := ⟨i.toNat, i2.symm⟩
  simp only [Int.toNat_natCast] at i1
  clear i2
  obtain ⟨va, vc, es, hm, hl, hvc, hvm, hv1, hv2⟩ := h.cells
  have hkl : k < es.length := by omega
  obtain ⟨e, he⟩ : ∃ e, es.getD k nilMl = e := ⟨_, rfl⟩
  have hmem : e ∈ es := by rw [← he]; exact getD_mem' hkl
  have hat := MlsOw.at (es := es) (by rw [hl]; exact hm.row)
  obtain ⟨g, off, rfl, hg, hcs⟩ := hat.at hkl
  rw [he] at hcs
  obtain ⟨g', cur, hge, hgh, hgs, hgc, hgm, hgcc⟩ := MlsOw.open (es := es) (by rw [hl]; exact hm.row) (by omega)
  cases hge
  rw [Nat.zero_add] at hcs
  have hsy : P.E.getD k nilMa = e.says := by rw [ml_says hm.says k, he]
  have hs' : (!e.s && decide (0 ≤ bit) && decide (bit.toNat / 8 < e.d.length)) = true := by
    have hs2 := hs
    unfold PN.spl at hs2
    rw [ha, Int.toNat_natCast, hsy] at hs2
    have e1 : mS e.says = e.s := rfl
    have e2 : mD e.says = e.d := rfl
    rw [e1, e2] at hs2
    simpa using hs2
  simp at hs'
  obtain ⟨⟨hes, hb0⟩, hq⟩ := hs'
  obtain ⟨q, rfl⟩ : ∃ q : Nat, bit = (q : Int) := ⟨bit.toNat, by omega⟩
  simp only [Int.toNat_natCast] at hq
  rw [ha] at HAT
  obtain ⟨-, -, c65, -, cf⟩ := cell_net hm.blk h.ok.len
  obtain ⟨e0, e1, e2, e3, e4, -⟩ := hcs
  unfold Ml.x at e3
  rw [hes] at e4
  have hdat := hm.row.dat e hmem
  obtain ⟨D, u9, hDa, hDc, hDf, hDw⟩ := Ow.can (a := e.a) (cap := e.c) hdat (q / 8) hq
  have hDc' : w.cell? ⟨D, q / 8, none⟩ = some (encB (e.d.getD (q / 8) 0)) := by
    have h1 := hdat.sl (Nat.le_refl _)
    obtain ⟨a9, c9, e9, -, -, h9⟩ := h1
    unfold Ml.x at e9
    cases e9
    obtain ⟨b9, o9, ea9, -, hc9⟩ := h9.resolve_left (by intro hz; rw [hz] at hq; simp at hq)
    rw [hDa] at ea9
    cases ea9
    have := hc9 (q / 8) hq
    rw [Nat.zero_add] at this
    rw [this, List.getD_eq_getElem?_getD]
  have hDb : D ≠ b := by rintro rfl; exact hdat.not_at hm.blk (by decide) (by unfold Ml.x; rw [hDa]; rfl)
  have hDg : D ≠ g := by rintro rfl; exact hdat.not_at hgh (by decide) (by unfold Ml.x; rw [hDa]; rfl)
  have hgb : g ≠ b := by rintro rfl; exact hm.row.not_at hm.blk (by decide) rfl
  have hfz : w.frozen? ⟨g, k * 5 + 4, none⟩ = false := by simp [World.frozen?, hgh]
  have HF : Hid (∀ W, Out (fun _ => False) ((w.setCell ⟨D, q / 8, none⟩ (encB (flipB (e.d.getD (q / 8) 0) (q % 8)))).setCell ⟨g, k * 5 + 4, none⟩ (.bool true)) W → NTh N S w W b (P.spoil (k : Int) (q : Int))) := fun W hOW => by
    obtain ⟨e', he'⟩ : ∃ e' : Ml, e' = ⟨e.n, e.f, e.t, e.a, e.c, flipD e.d q, true⟩ := ⟨_, rfl⟩
    have hx' : e'.x = e.x := by rw [he']; unfold Ml.x; simp only; rw [flipD_len]
    have hO1 : Out (fun j => j = D) w (w.setCell ⟨D, q / 8, none⟩ (encB (flipB (e.d.getD (q / 8) 0) (q % 8)))) := Out.set rfl
    have hO2 : Out (fun j => j = g) (w.setCell ⟨D, q / 8, none⟩ (encB (flipB (e.d.getD (q / 8) 0) (q % 8)))) ((w.setCell ⟨D, q / 8, none⟩ (encB (flipB (e.d.getD (q / 8) 0) (q % 8)))).setCell ⟨g, k * 5 + 4, none⟩ (.bool true)) := Out.set rfl
    have hDown : e.x.ownBlock = some D := by unfold Ml.x; rw [hDa]; rfl
    have hDS : S D := hv2 e hmem D hDown
    have hgS : S g := hv1 g rfl
    have hO : Out S w W := ((hO1.mono (fun j hj => by rw [hj]; exact hDS)).trans hO2 (fun j hj _ => by rw [hj]; exact hgS)).trans hOW (fun _ hf _ => hf.elim)
    have hsp : P.spoil (k : Int) (q : Int) = { P with E := P.E.set k (spoilM (P.E.getD k nilMa) q) } := by
      unfold PN.spoil; rw [if_pos hs]; rfl
    have hbW : W.heap[b]? = some (.cells (netCells P.n P.L (.slice (some ⟨g, 0, none⟩) P.E.length vc) P.k) 57 (0, 0)) := by
      refine (hOW.block b (by rw [size_set, size_set]; exact hbw) (fun hf => hf)).trans ?_
      refine (Below.heap_setCell _ _ _ _ (fun e => hgb e.symm)).trans ?_
      exact (Below.heap_setCell _ _ _ _ (fun e => hDb e.symm)).trans hm.blk
    have hg1 : (w.setCell ⟨D, q / 8, none⟩ (encB (flipB (e.d.getD (q / 8) 0) (q % 8)))).heap[g]? = some (.cells cur 41 (0, 0)) := (Below.heap_setCell _ _ _ _ (fun e => hDg e.symm)).trans hgh
    have hgW : W.heap[g]? = some (.cells (cur.setIfInBounds (k * 5 + 4) (.bool true)) 41 (0, 0)) :=
      (hOW.block g (by rw [size_set, size_set]; exact hg) (fun hf => hf)).trans (heap_set hg1 _ _)
    have hdW : ∀ f ∈ es.eraseIdx k, Ow 0 W f.x f.d := fun f hf => by
      have hfe := List.mem_of_mem_eraseIdx hf
      have hap := pairwise_at hm.apt hkl f hf
      rw [he] at hap
      have d1 := (hm.row.dat f hfe).out hO1 (by rintro j hj rfl; exact hap j hDown hj)
      have d2 := d1.out hO2 (by rintro j hj rfl; exact d1.not_at hg1 (by decide) hj)
      exact d2.out hOW (fun _ _ hf => hf)
    have hdE : Ow 0 W e'.x e'.d := by
      rw [hx', he']
      have d0 : Ow 0 w (.slice (some ⟨D, 0, none⟩) e.d.length e.c) e.d := by rw [← hDa]; exact hdat
      have d1 := d0.store (q / 8) (flipB (e.d.getD (q / 8) 0) (q % 8))
      have d1' : Ow 0 (w.setCell ⟨D, q / 8, none⟩ (encB (flipB (e.d.getD (q / 8) 0) (q % 8)))) e.x (flipD e.d q) := by
        unfold Ml.x; rw [hDa]
        exact d1
      have d2 := d1'.out hO2 (by rintro j hj rfl; exact d1'.not_at hg1 (by decide) hj)
      exact d2.out hOW (fun _ _ hf => hf)
    have hsl : (es.set k e').length = es.length := by simp
    have hrow : MlsOw 41 0 W (.slice (some ⟨g, 0, none⟩) P.E.length vc) (es.set k e') := by
      have := MlsOw.of (τ := 41) (cap := vc) (fs := es.set k e') hgW (by rw [Array.size_setIfInBounds]; exact hgs) hgm (by rw [hsl]; exact hgc) (fun j hj => ?_) (fun f hf => ?_)
      · rw [hsl, hl] at this; exact this
      · rw [hsl] at hj
        rw [mlCells_set es k e' hkl (by rw [he, he']) (by rw [he, he']) (by rw [he, he']) (by rw [he, hx']) j]
        rw [Array.toList_setIfInBounds]
        by_cases hjk : j = k * 5 + 4
        · rw [if_pos hjk, hjk, List.getElem?_set_self (by rw [Array.length_toList, hgs]; omega), he']
        · rw [if_neg hjk, List.getElem?_set_ne (by omega), hgcc j hj]
      · rcases mem_set_erase hf with rfl | hf
        · exact hdE
        · exact hdW f hf
    refine h.turn hN hO _ (es.set k e') ⟨?_, hrow, ?_, ?_⟩ ?_ ?_ (PN.spoil_ok h.ok _ _)
    · rw [hsp]
      show W.heap[b]? = some (.cells (netCells P.n P.L _ P.k) _ _)
      exact hbW
    · rw [hsp, List.map_set, hm.says]
      show P.E.set k e'.says = P.E.set k (spoilM (P.E.getD k nilMa) q)
      rw [hsy, he']
      rfl
    · exact pairwise_same hm.apt (set_same Ml.x es k e' nilMl (by rw [hx', he]))
    · intro j hj; cases hj; exact .inl hgS
    · intro f hf j hj
      rcases mem_set_erase hf with rfl | hf
      · rw [hx'] at hj; exact .inl (hv2 e hmem j hj)
      · exact .inl (hv2 f (List.mem_of_mem_eraseIdx hf) j hj)
  have hqw : wrap64 ((q : Int) / 8) = ((q / 8 : Nat) : Int) := by rw [← quo_cast]; exact (wrap_in _ (Int.natCast_nonneg _) (div_le q hb63)).1
  have hqv : IntKind.i64.wrap ((q : Int) / 8) = ((q / 8 : Nat) : Int) := by rw [← quo_cast]; exact (wrap_in _ (Int.natCast_nonneg _) (div_le q hb63)).2
  have hrv : IntKind.i64.wrap ((q : Int) % 8) = ((q % 8 : Nat) : Int) := by rw [← rem_cast]; exact (wrap_in _ (Int.natCast_nonneg _) (mod_le q)).2
  obtain ⟨J, hJ⟩ : ∃ J, q / 8 = J := ⟨_, rfl⟩
  obtain ⟨R, hR⟩ : ∃ R, q % 8 = R := ⟨_, rfl⟩
  have hR8 : R < 8 := hR ▸ Nat.mod_lt _ (by decide)
  rw [hJ] at hqw hqv HF hDc' hDc hDf hq
  rw [hR] at hrv HF
  have hsh := shl_one q R hR
  have HEN : Hid (∀ y : UInt8, Value.int .u8 (bits .xor .u8 (y.toNat : Int) ((2 ^ R : Nat) : Int)) = encB (flipB y R)) := fun y => encB_flip y hR8
  generalize 2 ^ R = p2 at *
  generalize e.d.getD J 0 = x at *
  unfold encB at hDc'
  have hq' : (J : Int) < (e.d.length : Int) := Int.ofNat_lt.2 hq
  have j0 : (0 : Int) ≤ (k : Int) := by omega
  have j1 : (k : Int) < (P.E.length : Int) := by omega
  have hb0' : decide ((q : Int) < 0) = false := by simp
  rw [hDa] at e3
  have hgw : g < w.heap.size := hg
  clear h hm hat hl hv1 hv2 hN hkl he ha i0 i1 hvc hvm hsy hs hgh hgs hgc hgm hgcc hdat hmem hJ hR hDc hb0 cf hb63
  generalize P.E.length = m at *
  go_enter Try.func21, Try.ntmps21
  go_wp2_with fail
  refine HAT.out.mono ?_
  rintro r w1 ⟨rfl, hw⟩
  subst w1
  go_wp2_with fail
  go_region_law (fail)
  rw [HEN.out x]
  unfold encB
  go_wp2
  go_ret
  exact ⟨rfl, HF.out _ (Out.drew _ 1)⟩

/-- Spoil. -/
theorem Spoil_any {N : Nat} {S : Nat → Prop} {w : World} {b : Nat} {P : PN} (h : Nt N S w b P) (hN : N ≤ w.heap.size) (i bit : Int) (hb63 : bit ≤ 9223372036854775807) :
    Calls Try.prog 21 #[.pointer (some ⟨b, 0, none⟩), .int .i64 i, .int .i64 bit] w fun r w' => r = .returned (.bool (P.spl i bit)) ∧ NTh N S w w' b (P.spoil i bit) := by
  cases hs : P.spl i bit
  · exact Spoil_no h hN i bit hb63 hs
  · exact Spoil_ok h hN i bit hb63 hs
end Go.Proofs.Ytefbfjlmhfmiiaa
