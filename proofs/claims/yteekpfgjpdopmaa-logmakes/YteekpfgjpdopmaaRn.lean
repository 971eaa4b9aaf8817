/-
  The document's log: Hand, Next, Entries, Hint.
-/
import Derived.Test.YteekpfgjpdopmaaRm
namespace Go.Proofs.Yteekpfgjpdopmaa
open Go.RowKit
set_option linter.unusedVariables false

/-- The cells of the document's log, and copies of pieces of its entries. -/
theorem Rg.copy {N : Nat} {S : Nat → Prop} {w : World} {b : Nat} {P : PL} (h : Rg N S w b P) : ∃ va vc, P.E.length ≤ vc ∧ vc ≤ maxLen ∧ ((va = none ∧ vc = 0 ∧ P.E.length = 0) ∨ ∃ g, va = some ⟨g, 0, none⟩) ∧
    (∀ w1, Below w.heap.size w w1 → (w1.cell? ⟨b, 0, none⟩ = some (.int .i64 P.bi) ∧ w1.cell? ⟨b, 1, none⟩ = some (.int .i64 P.bt) ∧ w1.cell? ⟨b, 2, none⟩ = some (.slice va P.E.length vc) ∧ w1.cell? ⟨b, 3, none⟩ = some (.int .i64 P.h) ∧ w1.cell? ⟨b, 4, none⟩ = some (.int .i64 P.s) ∧ w1.cell? ⟨b, 5, none⟩ = some (.int .i64 P.c) ∧ w1.cell? ⟨b, 6, none⟩ = some (.int .i64 P.g) ∧ w1.cell? ⟨b, 7, none⟩ = some (.int .i64 P.a)) ∧ (∀ o, w1.frozen? ⟨b, o, none⟩ = false) ∧ b < w1.heap.size) ∧
    ∀ (n0 cn : Nat), n0 + cn ≤ P.E.length → ∀ (w1 : World) (a' : Option Addr) (c' : Nat), Below w.heap.size w w1 → (cn = 0 ∨ vc ≤ n0 ∨ ∃ g, va = some ⟨g, 0, none⟩ ∧ a' = some ⟨g, n0 * 4, none⟩) →
      Calls Try.prog 16 #[.slice a' cn c'] w1 fun e w' => ∃ v fs, e = .returned v ∧ EntsOw w1.heap.size w' v fs ∧ fs.map Ent.says = (P.E.drop n0).take cn ∧ Below w1.heap.size w1 w' := by
  obtain ⟨va, vc, es, hb, ho, hs, hl, hvc, hvm, -, -⟩ := h.cells
  have hbw := h.inn _ h.Sb
  refine ⟨va, vc, hvc, hvm, ?_, fun w1 hB => ?_, fun n0 cn hle w1 a' c' hB ha => ?_⟩
  · rcases ho.row.2 with ⟨hv, hz⟩ | ⟨g, cap, cur, hv, -, hgb, hc1, hc2, hc3, hc4⟩
    · simp only [Value.slice.injEq] at hv
      exact .inl ⟨hv.1, hv.2.2, hv.2.1⟩
    · simp only [Value.slice.injEq] at hv
      exact .inr ⟨g, hv.1⟩
  · have hb1 := (hB.block b hbw).trans hb
    obtain ⟨c, f⟩ := cells8 hb1
    exact ⟨c, f, (Array.getElem?_eq_some_iff.1 hb1).1⟩
  · have hat : EntsAt w.heap.size w va es := EntsOw.at (es := es) (by rw [hl]; exact ho)
    have hll : ((es.drop n0).take cn).length = cn := by simp; omega
    have hE : EntsAt w.heap.size w1 a' ((es.drop n0).take cn) := by
      rcases ha with ha | ha | ⟨g, ha, ha'⟩
      · subst ha; exact .inl (by simp)
      · exact .inl (by have : cn = 0 := by omega
                       subst this; simp)
      · subst ha; subst ha'
        have := (hat.below hB).cut n0 cn
        rw [Nat.zero_add] at this
        exact this
    have hes : ∀ e ∈ (es.drop n0).take cn, e.d.length ≤ 1000000000 := fun e he => by
      have := eCk_ok (h.ok.ck e.says (by rw [← hs]; exact List.mem_map.2 ⟨e, List.mem_of_mem_drop (List.mem_of_mem_take he), rfl⟩))
      have h2 : e.d.length ≤ 4096 := this.2.2.2.2
      omega
    have hlen := h.ok.len
    have := refEntries_any a' c' ((es.drop n0).take cn) w.heap.size w1 hE hB.size (by omega) hes
    rw [hll] at this
    rw [← hs, ← List.map_drop, ← List.map_take]
    exact this

theorem EntsOw.put {N : Nat} {w : World} {v : Value} {fs : List Ent} (h : EntsOw N w v fs) {b : Nat} (hb : b < N) (o : Nat) (u : Value) : EntsOw N (w.setCell ⟨b, o, none⟩ u) v fs :=
  h.out ((Out.refl (fun i => i = b) w).put rfl) (by rintro g hg rfl; have := (h.lt hg).1; omega) (by rintro e he g hg rfl; have := ((h.dat e he).lt hg).1; omega)

set_option maxRecDepth 100000 in
set_option maxHeartbeats 4000000 in
/-- Hand. -/
theorem RHand_any {N : Nat} {S : Nat → Prop} {w : World} {b : Nat} {P : PL} (h : Rg N S w b P) :
    Calls Try.prog 48 #[.pointer (some ⟨b, 0, none⟩)] w fun e w' => ∃ v fs, e = .returned v ∧ EntsOw w.heap.size w' v fs ∧ fs.map Ent.says = haE P ∧ RK N S w w' b (haP P) := by
  obtain ⟨va, vc, hvc, hvm, hsh, hcs, hcp⟩ := h.copy
  have hbw := h.inn _ h.Sb
  have hhb : P.bi ≤ P.h := by have := h.ok.ba; have := h.ok.ag; have := h.ok.gs; have := h.ok.sh; omega
  obtain ⟨n0, hn0⟩ : ∃ n0 : Nat, P.h - P.bi = (n0 : Int) := ⟨(P.h - P.bi).toNat, by omega⟩
  have hhl := h.ok.hl
  have hlen : n0 ≤ P.E.length := by unfold PL.li at hhl; omega
  have hl2 := h.ok.len
  have hlim := h.ok.lim
  have hb0 := h.ok.b0
  have hE : haE P = (P.E.drop n0).take (P.E.length - n0) := by unfold haE; rw [show (P.h - P.bi).toNat = n0 by omega, List.take_of_length_le (by simp)]
  have HLW : Hid (∀ w1, Below w.heap.size w w1 → Calls Try.prog 21 #[.pointer (some ⟨b, 0, none⟩)] w1 fun e w' => e = .returned (.int .i64 P.li) ∧ Below w1.heap.size w1 w') := fun w1 hB => RLast_any (h.below hB)
  have HK : Hid (∀ w1 v fs, Below w.heap.size w w1 → EntsOw w.heap.size w1 v fs → fs.map Ent.says = (P.E.drop n0).take (P.E.length - n0) → ∃ fs, EntsOw w.heap.size (w1.setCell ⟨b, 3, none⟩ (.int .i64 P.li)) v fs ∧ fs.map Ent.says = haE P ∧ RK N S w (w1.setCell ⟨b, 3, none⟩ (.int .i64 P.li)) b (haP P)) := fun w1 v fs hB ho hsy =>
    ⟨fs, ho.put hbw _ _, by rw [hE]; exact hsy, h.mark hB 3 _ rfl (haP_ok h.ok) (fun v => rfl)⟩
  have HCS : Hid (∀ w1, Below w.heap.size w w1 → _) := hcs
  obtain ⟨⟨k0, k1, k2, k3, k4, k5, k6, k7⟩, kf, kb⟩ := hcs w (Below.refl _ _)
  have hwd : Below w.heap.size w w.drew := (Below.refl _ _).drew
  clear h hcs hE hhb hhl k1 k4 k5 k6 k7
  have hcn : ((P.E.length - n0 : Nat) : Int) = (P.E.length : Int) - (n0 : Int) := by omega
  rcases hsh with ⟨rfl, rfl, hz⟩ | ⟨g, rfl⟩
  · obtain rfl : n0 = 0 := by omega
    have HCP : Hid (∀ w1, Below w.heap.size w w1 → Calls Try.prog 16 #[.slice none 0 0] w1 fun e w' => ∃ v fs, e = .returned v ∧ EntsOw w1.heap.size w' v fs ∧ fs.map Ent.says = (P.E.drop 0).take (P.E.length - 0) ∧ Below w1.heap.size w1 w') := fun w1 hB => by
      have := hcp 0 (P.E.length - 0) (by omega) w1 none 0 hB (.inl (by omega))
      rw [show P.E.length - 0 = 0 by omega] at this ⊢
      exact this
    rw [hz] at k2 HCS
    clear hcp hvc hvm hlen hl2 hlim hcn
    generalize P.li = li at *
    generalize P.h = ph at *
    have hsub : IntKind.i64.wrap (ph - P.bi) = 0 := by rw [IntKind.wrap_i64]; omega
    clear hn0
    go_enter Try.func48, Try.ntmps48
    go_wp2
    go_region_held3 (fun w' => w'.cell? ⟨b, 0, none⟩ = some (.int .i64 P.bi) ∧ w'.cell? ⟨b, 2, none⟩ = some (.slice none 0 0) ∧ w'.cell? ⟨b, 3, none⟩ = some (.int .i64 ph)) (go_keep)
      (first
        | (go_at_call 16; refine (HCP.out _ hwd).mono ?_; rintro r w1 ⟨v, fs, rfl, q1, q2, q3⟩; have HB1 : Hid (Below w.heap.size w w1) := hwd.trans (q3.mono hwd.size); obtain ⟨⟨y0, y1, y2, y3, y4, y5, y6, y7⟩, yf, yb⟩ := HCS.out w1 HB1.out; have Q1 : Hid (EntsOw w.heap.size w1 v fs) := q1.base hwd.size; have Q2 : Hid (fs.map Ent.says = _) := q2; clear q1 q2 q3)
        | fail)
    go_wp2_with (go_at_call 21; refine (HLW.out w1 HB1.out).mono ?_; rintro r w2 ⟨rfl, hB2⟩; have HB2 : Hid (Below w.heap.size w w2) := HB1.out.trans (hB2.mono HB1.out.size); obtain ⟨⟨z0, z1, z2, z3, z4, z5, z6, z7⟩, zf, zb⟩ := HCS.out w2 HB2.out; have Q3 : Hid (EntsOw w.heap.size w2 v fs) := Q1.out.below hB2; clear hB2)
    go_ret
    obtain ⟨fs', f1, f2, f3⟩ := HK.out w2 v fs HB2.out Q3.out Q2.out
    exact ⟨v, fs', rfl, f1, f2, f3⟩
  · have HCP : Hid (∀ w1, Below w.heap.size w w1 → Calls Try.prog 16 #[.slice (if vc = n0 then some ⟨g, 0, none⟩ else some ⟨g, n0 * 4, none⟩) (P.E.length - n0) (vc - n0)] w1 fun e w' => ∃ v fs, e = .returned v ∧ EntsOw w1.heap.size w' v fs ∧ fs.map Ent.says = (P.E.drop n0).take (P.E.length - n0) ∧ Below w1.heap.size w1 w') := fun w1 hB => hcp n0 (P.E.length - n0) (by omega) w1 _ _ hB (by split <;> first | exact .inr (.inl (by omega)) | exact .inr (.inr ⟨g, rfl, rfl⟩))
    clear hcp
    unfold maxLen at hvm
    generalize hL : (P.E.drop n0).take (P.E.length - n0) = L at *
    generalize hlE : P.E.length = m at *
    generalize P.li = li at *
    generalize P.h = ph at *
    have hsub : IntKind.i64.wrap (ph - P.bi) = (n0 : Int) := by rw [IntKind.wrap_i64]; omega
    have i0 : (0 : Int) ≤ (n0 : Int) := by omega
    have i1 : (n0 : Int) ≤ (m : Int) := by omega
    have i3 : (m : Int) ≤ (vc : Int) := by omega
    clear hn0
    by_cases hvn : vc = n0
    · subst hvn
      obtain rfl : m = vc := by omega
      simp only [if_true, Nat.sub_self] at HCP
      go_enter Try.func48, Try.ntmps48
      go_wp2
      go_region_held3 (fun w' => w'.cell? ⟨b, 0, none⟩ = some (.int .i64 P.bi) ∧ w'.cell? ⟨b, 2, none⟩ = some (.slice (some ⟨g, 0, none⟩) m m) ∧ w'.cell? ⟨b, 3, none⟩ = some (.int .i64 ph)) (go_keep)
        (first
          | (go_at_call 16; refine (HCP.out _ hwd).mono ?_; rintro r w1 ⟨v, fs, rfl, q1, q2, q3⟩; have HB1 : Hid (Below w.heap.size w w1) := hwd.trans (q3.mono hwd.size); obtain ⟨⟨y0, y1, y2, y3, y4, y5, y6, y7⟩, yf, yb⟩ := HCS.out w1 HB1.out; have Q1 : Hid (EntsOw w.heap.size w1 v fs) := q1.base hwd.size; have Q2 : Hid (fs.map Ent.says = _) := q2; clear q1 q2 q3)
          | fail)
      all_goals
        go_wp2_with (go_at_call 21; refine (HLW.out w1 HB1.out).mono ?_; rintro r w2 ⟨rfl, hB2⟩; have HB2 : Hid (Below w.heap.size w w2) := HB1.out.trans (hB2.mono HB1.out.size); obtain ⟨⟨z0, z1, z2, z3, z4, z5, z6, z7⟩, zf, zb⟩ := HCS.out w2 HB2.out; have Q3 : Hid (EntsOw w.heap.size w2 v fs) := Q1.out.below hB2; clear hB2)
        go_ret
        obtain ⟨fs', f1, f2, f3⟩ := HK.out w2 v fs HB2.out Q3.out Q2.out
        exact ⟨v, fs', rfl, f1, f2, f3⟩
    · rw [if_neg hvn] at HCP
      go_enter Try.func48, Try.ntmps48
      go_wp2
      go_region_held3 (fun w' => w'.cell? ⟨b, 0, none⟩ = some (.int .i64 P.bi) ∧ w'.cell? ⟨b, 2, none⟩ = some (.slice (some ⟨g, 0, none⟩) m vc) ∧ w'.cell? ⟨b, 3, none⟩ = some (.int .i64 ph)) (go_keep)
        (first
          | (go_at_call 16; refine (HCP.out _ hwd).mono ?_; rintro r w1 ⟨v, fs, rfl, q1, q2, q3⟩; have HB1 : Hid (Below w.heap.size w w1) := hwd.trans (q3.mono hwd.size); obtain ⟨⟨y0, y1, y2, y3, y4, y5, y6, y7⟩, yf, yb⟩ := HCS.out w1 HB1.out; have Q1 : Hid (EntsOw w.heap.size w1 v fs) := q1.base hwd.size; have Q2 : Hid (fs.map Ent.says = _) := q2; clear q1 q2 q3)
          | fail)
      all_goals
        go_wp2_with (go_at_call 21; refine (HLW.out w1 HB1.out).mono ?_; rintro r w2 ⟨rfl, hB2⟩; have HB2 : Hid (Below w.heap.size w w2) := HB1.out.trans (hB2.mono HB1.out.size); obtain ⟨⟨z0, z1, z2, z3, z4, z5, z6, z7⟩, zf, zb⟩ := HCS.out w2 HB2.out; have Q3 : Hid (EntsOw w.heap.size w2 v fs) := Q1.out.below hB2; clear hB2)
        go_ret
        obtain ⟨fs', f1, f2, f3⟩ := HK.out w2 v fs HB2.out Q3.out Q2.out
        exact ⟨v, fs', rfl, f1, f2, f3⟩
end Go.Proofs.Yteekpfgjpdopmaa
