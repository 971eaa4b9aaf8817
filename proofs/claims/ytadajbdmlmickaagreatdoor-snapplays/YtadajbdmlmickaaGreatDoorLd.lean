/-
  Load: the newest whole snapshot.
-/
import Derived.Test.YtadajbdmlmickaaGreatDoorWh2
import Derived.Test.YtadajbdmlmickaaGreatDoorLs
namespace Go.Proofs.YtadajbdmlmickaaGreatDoor
open Go.RowKit
set_option linter.unusedVariables false

theorem loadL_step (p : PD) (l : List Nat) (k : Nat) (h : k < l.length) (hn : ∀ j, j < k → wholeP p (l.getD j 0) = none) : loadL p l 0 = match wholeP p (l.getD k 0) with | some s => (s, k, 0) | none => loadL p (l.drop (k + 1)) (k + 1) := by
  have main : ∀ (l : List Nat) (c k : Nat), k < l.length → (∀ j, j < k → wholeP p (l.getD j 0) = none) → loadL p l c = match wholeP p (l.getD k 0) with | some s => (s, c + k, 0) | none => loadL p (l.drop (k + 1)) (c + k + 1) := by
    intro l
    induction l with
    | nil => intro c k h; simp at h
    | cons x r ih =>
      intro c k h hn
      cases k with
      | zero =>
        simp only [loadL, List.getD_cons_zero, Nat.add_zero, Nat.zero_add, List.drop_succ_cons, List.drop_zero]
        cases wholeP p x <;> rfl
      | succ k =>
        have h0 := hn 0 (by omega)
        rw [List.getD_cons_zero] at h0
        simp only [loadL, h0]
        rw [ih (c + 1) k (by simpa using h) (fun j hj => by have := hn (j + 1) (by omega); rwa [List.getD_cons_succ] at this)]
        simp only [List.getD_cons_succ, List.drop_succ_cons]
        rw [show c + 1 + k = c + (k + 1) by omega]
  have := main l 0 k h hn
  simpa using this
theorem loadL_none (p : PD) (l : List Nat) (hn : ∀ j, j < l.length → wholeP p (l.getD j 0) = none) : loadL p l 0 = ((0, 0, []), 0, 8) := by
  have main : ∀ (l : List Nat) (c : Nat), (∀ j, j < l.length → wholeP p (l.getD j 0) = none) → loadL p l c = ((0, 0, []), 0, 8) := by
    intro l
    induction l with
    | nil => intro c _; rfl
    | cons x r ih =>
      intro c hn
      have h0 := hn 0 (by simp)
      rw [List.getD_cons_zero] at h0
      simp only [loadL, h0]
      exact ih (c + 1) (fun j hj => by have := hn (j + 1) (by simpa using hj); rwa [List.getD_cons_succ] at this)
  exact main l 0 hn

theorem results_ld {fn : Func} {t u v : Tmp} (h : fn.results = #[.cell t 34, .tmp u, .tmp v]) (tmps : Array Value) (w : World) (B : Nat) {x0 x1 x2 : Value} (ht : tmps.getD t undef = .pointer (some ⟨B, 0, none⟩)) (hb : w.heap[B]? = some (.cells #[x0, x1, x2] 34 (0, 0))) :
    (results fn tmps).run Tryz.prog w = .ok (.tuple #[.agg #[x0, x1, x2], tmps.getD u undef, tmps.getD v undef]) w := by
  obtain ⟨⟨c0, c1, c2⟩, -⟩ := Cd.cells3 hb
  have ht' : tmps[t]?.getD undef = .pointer (some ⟨B, 0, none⟩) := by rw [← Array.getD_eq_getD_getElem?]; exact ht
  simp [results, h, ht', asAddr, loadVar, c0, c1, c2, go_sem]

/-- What Load answers. -/
def LdR (w : World) (x : (Nat × Nat × List UInt8) × Nat × Nat) (r : Ending) (w' : World) : Prop := ∃ u, r = .returned (.tuple #[.agg #[.int .i64 (x.1.1 : Int), .int .i64 (x.1.2.1 : Int), u], .int .i64 (x.2.1 : Int), .int .i64 (x.2.2 : Int)]) ∧ Ow w.heap.size w' u x.1.2.2 ∧ Below w.heap.size w w'

set_option maxRecDepth 100000 in
set_option maxHeartbeats 4000000 in
theorem load_any {N : Nat} {S : Nat → Prop} {w : World} {d : Nat} {p : PD} (h : Dsk N w S d p) (hv : ∀ V, Below w.heap.size w V → Vars V) :
    Calls Tryz.prog 12 #[.pointer (some ⟨d, 0, none⟩)] w fun r w' => LdR w (loadS p) r w' := by
  obtain ⟨W0, hW0⟩ : ∃ W0, w.alloc (.cells #[.int .i64 0, .int .i64 0, .slice none 0 0] 34) = W0 := ⟨_, rfl⟩
  have HW0 : Hid (w.alloc (.cells #[.int .i64 0, .int .i64 0, .slice none 0 0] 34) = W0) := hW0
  have hB0 : Below w.heap.size w W0 := by rw [← hW0]; exact (Below.refl _ w).alloc (Nat.le_refl _) _
  have hz0 : w.heap.size < W0.heap.size := by rw [← hW0]; simp
  have hbx : W0.heap[w.heap.size]? = some (.cells #[.int .i64 0, .int .i64 0, .slice none 0 0] 34 (0, 0)) := by rw [← hW0]; exact heap_alloc_new w _
  have HB0 : Hid (Below w.heap.size w W0) := hB0
  have HR : Hid (∀ V, Below W0.heap.size W0 V → V.heap[w.heap.size]? = some (.cells #[.int .i64 0, .int .i64 0, .slice none 0 0] 34 (0, 0)) ∧ w.heap.size < V.heap.size) := fun V hV => ⟨(hV.block _ (by omega)).trans hbx, by have := hV.size; omega⟩
  have HD : Hid (Dsk N w S d p) := h
  have HV : Hid (∀ V, Below w.heap.size w V → Vars V) := hv
  have HL : Hid (Calls _ _ _ _ _) := list_s (h.below hB0) (fun V hV => hv V (hB0.trans (hV.mono (by omega))))
  have HMX : Hid (∀ x ∈ listP p, x ≤ 4611686018427387904) := fun x hx => (list_mem hx).2.1
  have HLN : Hid ((listP p).length ≤ 256) := by have := pick_len (p.fs.map PF.nm); rw [← pick_list] at this; have := h.few; show _ ≤ _; simp at *; omega
  have HLD : Hid (loadS p = loadL p (listP p).reverse 0) := rfl
  obtain ⟨x, hx⟩ : ∃ x, loadS p = x := ⟨_, rfl⟩
  rw [hx] at HLD ⊢
  obtain ⟨li, hli⟩ : ∃ li, listP p = li := ⟨_, rfl⟩
  rw [hli] at HL HMX HLN HLD
  clear h hv hB0 hbx hW0 hx hli
  go_enter Tryz.func12, Tryz.ntmps12
  go_wp2_with fail
  rw [HW0.out]
  refine HL.out.mono ?_
  rintro r w1 ⟨a1, c1, rfl, hO1, hB1⟩
  have hle : (ixI li).length = li.length := by simp [ixI]
  have HRV : Hid (Calls _ _ _ _ _) := rev_row W0.heap.size a1 c1 (ixI li) w1 (by rw [hle]; exact hO1) (by rw [hle]; have := HLN.out; omega)
  rw [hle] at HRV
  have HLT : Hid (∀ g, (Value.slice a1 li.length c1).ownBlock = some g → W0.heap.size ≤ g) := fun g hg => (hO1.lt hg).1
  have HB1 : Hid (Below W0.heap.size W0 w1) := hB1
  clear hO1 hB1 HL hle
  go_wp2_with fail
  refine HRV.out.mono ?_
  rintro r w2 ⟨rfl, hO2, hg2⟩
  have HB2 : Hid (Below W0.heap.size W0 w2) := HB1.out.grown hg2 HB1.out.size (fun g hg => HLT.out g hg)
  have HO2 : Hid (In.Ow W0.heap.size w2 (.slice a1 li.length c1) (ixI li).reverse) := hO2
  have hL256 := HLN.out
  clear hO2 hg2 HRV HB1
  go_wp2_with fail
  go_loopw [16] (fun kv wr => ∃ k : Nat, kv = .int .i64 (k : Int) ∧ k ≤ li.length ∧ Below w2.heap.size w2 wr ∧ ∀ j, j < k → wholeP p (li.reverse.getD j 0) = none) (fun kv _ => li.length - (intOf kv).toNat)
  case atStart => exact ⟨0, rfl, Nat.zero_le _, Below.refl _ _, fun j hj => by omega⟩
  case round =>
    obtain ⟨k, rfl, hk, hB, hno⟩ := hrel
    have HB : Hid (Below w2.heap.size w2 wr) := hB
    have HNO : Hid (∀ j, j < k → wholeP p (li.reverse.getD j 0) = none) := hno
    have HBW : Hid (Below W0.heap.size W0 wr) := HB2.out.trans (hB.mono HB2.out.size)
    clear hB hno
    by_cases hlt : k < li.length
    · have k0 : (0 : Int) ≤ (k : Int) := by omega
      have k1 : (k : Int) < (li.length : Int) := by omega
      obtain ⟨n, hn⟩ : ∃ n, li.reverse.getD k 0 = n := ⟨_, rfl⟩
      have hnm : n ∈ li := by
        rw [← hn, List.getD_eq_getElem?_getD, List.getElem?_eq_getElem (by simpa using hlt)]
        exact List.mem_reverse.1 (List.getElem_mem _)
      have hn4 := HMX.out n hnm
      have hcell : ∃ g, a1 = some ⟨g, 0, none⟩ ∧ g < w2.heap.size ∧ w2.cell? ⟨g, k, none⟩ = some (.int .i64 (n : Int)) := by
        obtain ⟨a', c', e, q1, q2, q3⟩ := HO2.out.sl (Nat.le_refl _)
        injection e with e1 e2 e3
        subst e1
        rcases q3 with q3 | ⟨g, off, hga, hgl, hc⟩
        · have := congrArg List.length q3; simp [ixI] at this; rw [this] at hlt; simp at hlt
        · have hoff : off = 0 := by
            rcases HO2.out.2 with ⟨e1, -⟩ | ⟨g', cap', cur, e1, -⟩
            · rw [hga] at e1; injection e1 with e1; cases e1
            · rw [hga] at e1; injection e1 with e1; cases e1; rfl
          subst hoff
          refine ⟨g, hga, hgl, ?_⟩
          have := hc k (by simp [ixI]; omega)
          rw [Nat.zero_add] at this
          rw [this]
          congr 2
          rw [← hn, List.getD_eq_getElem?_getD]
          unfold ixI
          rw [← List.map_reverse, List.getElem?_map, List.getElem?_eq_getElem (by simpa using hlt)]
          rfl
      obtain ⟨g, hga, hgl, hc⟩ := hcell
      subst hga
      have hc' := (HB.out.cell (p := ⟨g, k, none⟩) hgl).trans hc
      have hgl' : g < wr.heap.size := Nat.lt_of_lt_of_le hgl HB.out.size
      have HWH : Hid (Calls _ _ _ _ _) := whole_any (HD.out.below (HB0.out.trans (HBW.out.mono (by omega)))) (fun V hV => HV.out V (HB0.out.trans ((HBW.out.trans (hV.mono HBW.out.size)).mono (by omega)))) n hn4
      have HST : Hid (x = match wholeP p n with | some s => (s, k, 0) | none => loadL p (li.reverse.drop (k + 1)) (k + 1)) := by
        show x = _
        rw [HLD.out, loadL_step p li.reverse k (by simpa using hlt) HNO.out, hn]
      have HNX : Hid (wholeP p n = none → ∀ j, j < k + 1 → wholeP p (li.reverse.getD j 0) = none) := fun h0 j hj => by
        by_cases hjk : j < k
        · exact HNO.out j hjk
        · rw [show j = k by omega, hn]; exact h0
      clear hn hc hnm hn4 HNO
      go_wp2_with fail
      refine HWH.out.mono ?_
      rintro r w3 ⟨z0, z1, u, m, rfl, hO3, hz3, hB3⟩
      obtain ⟨ua, uc, hsh, hcp3, -⟩ := hO3.shape
      subst hsh
      have HB3 : Hid (Below w2.heap.size w2 w3) := HB.out.trans (hB3.mono HB.out.size)
      have HBW3 : Hid (Below W0.heap.size W0 w3) := HBW.out.trans (hB3.mono HBW.out.size)
      cases hwh : wholeP p n with
      | none =>
        have HN2 : Hid (∀ j, j < k + 1 → wholeP p (li.reverse.getD j 0) = none) := HNX.out hwh
        have HB4 : Hid (∀ o, Below w2.heap.size w2 (w3.alloc o)) := fun o => HB3.out.alloc HB3.out.size _
        clear hO3 hz3 hB3 HWH HST HNX hwh hc'
        simp only [Option.isSome_none]
        go_wp2
        exact ⟨⟨k + 1, by go_num, by omega, HB4.out _, HN2.out⟩, by simp [intOf]; omega⟩
      | some sn =>
        obtain ⟨e0, e1, e2⟩ := hz3 sn hwh
        have hx' : x = (sn, k, 0) := by have := HST.out; rw [hwh] at this; exact this
        obtain ⟨s0, s1, s2⟩ := sn
        simp only at e0 e1 e2
        subst e0 e1 e2
        simp only [Option.isSome_some]
        obtain ⟨hb3, hzw3⟩ := HR.out w3 HBW3.out
        obtain ⟨⟨d0, d1, d2⟩, g0, g1, g2⟩ := Cd.cells3 hb3
        have hzz : W0.heap.size ≤ wr.heap.size := HBW.out.size
        obtain ⟨W6, hW6⟩ : ∃ W6, ((w3.setCell ⟨w.heap.size, 0, none⟩ (.int .i64 (s0 : Int))).setCell ⟨w.heap.size, 1, none⟩ (.int .i64 (s1 : Int))).setCell ⟨w.heap.size, 2, none⟩ (.slice ua m.length uc) = W6 := ⟨_, rfl⟩
        have h6 : W6.heap[w.heap.size]? = some (.cells #[.int .i64 (s0 : Int), .int .i64 (s1 : Int), .slice ua m.length uc] 34 (0, 0)) := by rw [← hW6]; exact Cd.set3 hb3 _ _ _
        have hO3' : Ow w.heap.size w3 (.slice ua m.length uc) m := hO3.base (by omega)
        have hO6 : Ow w.heap.size W6 (.slice ua m.length uc) m := by rw [← hW6]; exact hO3'.kept (Cd.grownset3 w3 w.heap.size _ _ _) (.inr (hO3'.not_at hb3 (by decide)))
        have hB6 : Below w.heap.size w W6 := by rw [← hW6]; exact Cd.belset3 (HB0.out.trans (HBW3.out.mono (by omega))) (Nat.le_refl _) _ _ _
        have HX6 : Hid (∀ o, (W6.alloc o).heap[w.heap.size]? = some (.cells #[.int .i64 (s0 : Int), .int .i64 (s1 : Int), .slice ua m.length uc] 34 (0, 0))) := fun o => (((Below.refl W6.heap.size W6).alloc (Nat.le_refl _) o).block _ (Array.getElem?_eq_some_iff.1 h6).1).trans h6
        have HFIN : Hid (∀ o, LdR w (((s0, s1, m), k, 0)) (.returned (.tuple #[.agg #[.int .i64 (s0 : Int), .int .i64 (s1 : Int), .slice ua m.length uc], .int .i64 (k : Int), .int .i64 0])) (W6.alloc o)) := fun o =>
          ⟨_, rfl, hO6.alloc o, hB6.alloc hB6.size o⟩
        have HXX : Hid (x = ((s0, s1, m), k, 0)) := hx'
        have HW6 : Hid (((w3.setCell ⟨w.heap.size, 0, none⟩ (.int .i64 (s0 : Int))).setCell ⟨w.heap.size, 1, none⟩ (.int .i64 (s1 : Int))).setCell ⟨w.heap.size, 2, none⟩ (.slice ua m.length uc) = W6) := hW6
        clear hO3 hB3 HWH HST HNX hwh hb3 hx' hc' hz3 h6 hO3' hO6 hB6 hW6
        go_wp2_with fail
        rw [HW6.out]
        refine bodyPost_ret (results_ld rfl _ _ w.heap.size rfl (HX6.out _)) rfl ?_
        rw [HXX.out]
        exact HFIN.out _
    · have hlt' : ¬ (k : Int) < (li.length : Int) := by omega
      have HXX : Hid (x = ((0, 0, []), 0, 8)) := by
        show x = _
        rw [HLD.out]
        exact loadL_none p _ (fun j hj => HNO.out j (by simp at hj; omega))
      obtain ⟨hb3, hzw3⟩ := HR.out wr HBW.out
      obtain ⟨⟨d0, d1, d2⟩, g0, g1, g2⟩ := Cd.cells3 hb3
      have HX3 : Hid (wr.heap[w.heap.size]? = some (.cells #[.int .i64 0, .int .i64 0, .slice none 0 0] 34 (0, 0))) := hb3
      clear hb3
      go_wp2
      refine bodyPost_ret (results_ld rfl _ _ w.heap.size rfl (Cd.set3 HX3.out _ _ _)) rfl ?_
      rw [HXX.out]
      exact ⟨_, rfl, Ow.nil _ _, Cd.belset3 (HB0.out.trans (HBW.out.mono (by omega))) (Nat.le_refl _) _ _ _⟩
end Go.Proofs.YtadajbdmlmickaaGreatDoor
