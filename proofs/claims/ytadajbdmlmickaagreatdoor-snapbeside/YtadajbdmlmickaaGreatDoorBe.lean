/-
  SnapBeside: the law.
-/
import Derived.Test.YtadajbdmlmickaaGreatDoorTw
import Derived.Test.YtadajbdmlmickaaGreatDoorIx2
namespace Go.Proofs.YtadajbdmlmickaaGreatDoor
open Go.RowKit
set_option linter.unusedVariables false

theorem be_same (m : List UInt8) (i t : Int) : (decide (m = m) && (i == i) && (t == t)) = true := by simp
theorem be_same2 (i t : Int) : (decide True && (i == i) && (t == t)) = true := by simp
/-- How much more is handed in. -/
def szM (x : Opn) : Nat := min x.b.length 20000 + min x.nm.length 20000
def totM (l : List Opn) : Nat := (l.map szM).sum
theorem totM_step {l : List Opn} {k : Nat} (h : k < l.length) : totM (l.take (k + 1)) = totM (l.take k) + szM (l.getD k nilOp) := by
  unfold totM
  rw [List.take_succ_eq_append_getElem h, List.map_append, List.sum_append, List.getD_eq_getElem?_getD, List.getElem?_eq_getElem h]
  simp
theorem totM_le (l : List Opn) {k : Nat} (h : k ≤ l.length) : totM (l.take k) ≤ totM l := by
  have e : totM l = totM (l.take k) + totM (l.drop k) := by
    unfold totM
    rw [← List.sum_append, ← List.map_append, List.take_append_drop]
  omega
theorem totS_le2 (l : List Sop) {k : Nat} (h : k ≤ l.length) : totS (l.take k) ≤ totS l := by
  have e : totS l = totS (l.take k) + totS (l.drop k) := by
    unfold totS
    rw [← List.sum_append, ← List.map_append, List.take_append_drop]
  omega
/-- No file has the empty name. -/
def NE (p : PD) : Prop := ∀ f ∈ p.fs, f.nm ≠ []
theorem NE.look {p : PD} (h : NE p) : lookP [] p.fs = none := by
  cases hl : lookP [] p.fs with
  | none => rfl
  | some f => exact absurd (lookP_nm hl).2 (h f (lookP_nm hl).1)
theorem NE.create {p : PD} (h : NE p) (nm : List UInt8) : NE (doCreate p nm).2 := by
  unfold doCreate
  repeat' split
  all_goals first | exact h | skip
  · intro f hf; rw [pd_fail_fs] at hf; exact h f hf
  · rename_i hn _ _ _
    intro f hf
    rcases mem_ins (show f ∈ insP _ _ from hf) with e | e
    · rw [e]
      intro e2
      have e3 : nm = [] := e2
      rw [e3] at hn
      exact hn rfl
    · exact h f (del_sub e)
theorem NE.map {p : PD} (h : NE p) {g : PF → PF} (hg : ∀ f, (g f).nm = f.nm) {q : PD} (hq : q.fs = p.fs.map g) : NE q := fun f hf => by
  rw [hq] at hf
  obtain ⟨x, hx, rfl⟩ := List.mem_map.1 hf
  rw [hg]; exact h x hx
theorem NE.sync {p : PD} (h : NE p) (nm : List UInt8) : NE (doSync p nm).2 := by
  unfold doSync
  repeat' split
  all_goals first | exact h | skip
  · intro f hf; rw [pd_fail_fs] at hf; exact h f hf
  · exact h.map (g := syncP nm) (fun f => by unfold syncP; split <;> rfl) rfl
theorem NE.append {p : PD} (h : NE p) (nm b : List UInt8) : NE (doAppend p nm b).2 := by
  unfold doAppend
  repeat' split
  all_goals first | exact h | skip
  · exact h.map (g := appP nm _) (fun f => by unfold appP; split <;> rfl) rfl
  · exact h.map (g := appP nm b) (fun f => by unfold appP; split <;> rfl) rfl
/-- All that was told is other files. -/
theorem all_others {p : PD} (ht : lookP tmpL p.fs = none) (hs : NoS p) : others p = p.fs.map PF.says := by
  unfold others
  rw [List.filter_eq_self.2]
  intro f hf
  unfold oth
  have h1 : f.nm ≠ tmpL := lookP_none ht hf
  have h2 : idxL f.nm = 0 := by
    apply Classical.byContradiction
    intro h0
    obtain ⟨e1, e2⟩ := nm_idx (l := f.nm) (by omega)
    have := hs (idxL f.nm) (by omega) e2
    unfold vw at this
    rw [Option.map_eq_none_iff, e1] at this
    exact lookP_none this hf rfl
  simp [h1, h2]
def othS (x : List UInt8 × List UInt8 × Int) : Bool := decide (idxL x.1 = 0) && !(x.1 == tmpL)
theorem others_eq (p : PD) : others p = (p.fs.map PF.says).filter othS := by
  unfold others
  rw [List.filter_map]
  rfl
theorem filter_at {α : Type} (f : α → Bool) : ∀ (l : List α) (i : Nat) (x : α), l[i]? = some x → f x = true → (l.filter f)[((l.take i).filter f).length]? = some x
  | [], i, x, h, _ => by simp at h
  | y :: l, 0, x, h, hx => by
    simp at h
    subst h
    simp [hx]
  | y :: l, i + 1, x, h, hx => by
    have ih := filter_at f l i x (by simpa using h) hx
    rw [List.take_succ_cons]
    by_cases hy : f y = true
    · rw [List.filter_cons_of_pos hy, List.filter_cons_of_pos hy, List.length_cons, List.getElem?_cons_succ]; exact ih
    · rw [List.filter_cons_of_neg hy, List.filter_cons_of_neg hy]; exact ih
theorem Tw.start {K : Nat} {w1 w2 w3 : World} {da db : Nat} {Sa : Nat → Prop} (hK : K ≤ w1.heap.size) (ha : Dsk K w2 Sa da ⟨[], 0, false⟩) (hB : Below w1.heap.size w1 w2) (hb : Dsk w2.heap.size w3 (fun i => w2.heap.size ≤ i ∧ i < w2.heap.size + 2) db ⟨[], 0, false⟩) (hB2 : Below w2.heap.size w2 w3) : Tw K w1 w3.heap.size w3 w3 da db ⟨[], 0, false⟩ ⟨[], 0, false⟩ := by
  have hz := hB.size
  have hz2 := hB2.size
  refine ⟨⟨Sa, (fun i => w2.heap.size ≤ i ∧ i < w2.heap.size + 2), ha.below hB2, ?_, fun i h1 h2 => ?_, fun i hi => ?_⟩, (hB.mono hK).trans (hB2.mono (by omega)), fun _ _ _ => rfl, Nat.le_refl _, by omega⟩
  · obtain ⟨k, h1, h2, h3⟩ := hb
    exact ⟨k, h1, h2, fun i hi => Nat.le_trans (by omega) (h3 i hi)⟩
  · have := ha.inn i h1
    have := h2.1
    omega
  · omega

set_option maxRecDepth 100000 in
set_option maxHeartbeats 16000000 in
theorem beside_walk (a : Option Addr) (c : Nat) (l : List Sop) (w : World) (h : SopsAt w.heap.size w a l) (hl : l.length ≤ 9223372036854775807) (a2 : Option Addr) (c2 : Nat) (m : List Opn) (h2 : OpsAt w.heap.size w a2 m) (hl2 : m.length ≤ 9223372036854775807) (hv : ∀ V, Below w.heap.size w V → Vars V) :
    Calls Tryz.prog 7 #[.slice a l.length c, .slice a2 m.length c2] w fun e w' => e = .returned (.bool true) ∧ Below w.heap.size w w' := by
  have HO : Hid (SopsAt w.heap.size w a l) := h
  have HM : Hid (OpsAt w.heap.size w a2 m) := h2
  have HV : Hid (∀ V, Below w.heap.size w V → Vars V) := hv
  have HF : Hid (Calls _ _ _ _ _) := first_s w hv
  have HFW : Hid (∀ V, Below w.heap.size w V → Calls Tryz.prog 9 #[.slice a l.length c] V fun e w' => e = .returned (.bool (decide (l.length ≤ 100) && decide (totS l ≤ 20000))) ∧ Below V.heap.size V w') := fun V hV => few6_any a c l w.heap.size V (by
    rcases h with h | ⟨b, off, ha, hb, hc⟩
    · exact .inl h
    · exact .inr ⟨b, off, ha, hb, fun i hi => (hc i hi).below hb hV⟩) hV.size hl
  clear h h2 hv
  go_enter Tryz.func7, Tryz.ntmps7
  go_wp2_with fail
  refine HF.out.mono ?_
  rintro r w1 ⟨rfl, hB1⟩
  have HB1 : Hid (Below w.heap.size w w1) := hB1
  clear hB1 HF
  go_wp2_with fail
  refine (HFW.out w1 HB1.out).mono ?_
  rintro r w2 ⟨rfl, hB2⟩
  have HB2 : Hid (Below w.heap.size w w2) := HB1.out.trans (hB2.mono HB1.out.size)
  obtain ⟨fb, hfb⟩ : ∃ fb, (decide (l.length ≤ 100) && decide (totS l ≤ 20000)) = fb := ⟨_, rfl⟩
  rw [hfb]
  have HFB : Hid ((decide (l.length ≤ 100) && decide (totS l ≤ 20000)) = fb) := hfb
  clear hB2 HFW HB1 hfb
  go_wp2_with fail
  go_loopw [7, 8] (fun nv kv wr => ∃ k : Nat, kv = .int .i64 (k : Int) ∧ nv = .int .i64 (min (totM (m.take k)) 40000 : Nat) ∧ k ≤ m.length ∧ k ≤ 100 ∧ Below w.heap.size w wr) (fun _ kv _ => m.length - (intOf kv).toNat)
  case atStart => exact ⟨0, rfl, rfl, Nat.zero_le _, by omega, HB2.out⟩
  case round =>
    obtain ⟨k, rfl, rfl, hk, hk1, hB⟩ := hrel
    have HB : Hid (Below w.heap.size w wr) := hB
    clear HB2
    by_cases hlt : k < m.length
    · have k1 : (k : Int) < (m.length : Int) := by omega
      have k0 : (0 : Int) ≤ (k : Int) := by omega
      by_cases h4 : k < 100
      · have hi4 : (k : Int) < 100 := by omega
        obtain ⟨b, off, rfl, hb, ho⟩ := HM.out.at hlt
        obtain ⟨⟨-, -, c2, -, c4⟩, s9, q7, -, -⟩ := ho.below hb hB
        have HST : Hid (totM (m.take (k + 1)) = totM (m.take k) + szM (m.getD k nilOp)) := totM_step hlt
        have q9 : (m.getD k nilOp).b.length ≤ 9223372036854775807 := by obtain ⟨_, _, e, h5, h6, _⟩ := s9; unfold maxLen at h6; unfold Opn.x at e; injection e with e1 e2 e3; omega
        unfold Opn.x at c4
        unfold szM at HST
        unfold maxLen at q7
        generalize (m.getD k nilOp).nm = nm at *
        generalize (m.getD k nilOp).b = bb at *
        obtain ⟨m2, hm2⟩ : ∃ m, min bb.length 20000 = m := ⟨_, rfl⟩
        obtain ⟨m3, hm3⟩ : ∃ m, min nm.length 20000 = m := ⟨_, rfl⟩
        rw [hm2, hm3] at HST
        have x2 : min (bb.length : Int) 20000 = (m2 : Int) := by omega
        have x3 : min (nm.length : Int) 20000 = (m3 : Int) := by omega
        have y2 : m2 ≤ 20000 := by omega
        have y3 : m3 ≤ 20000 := by omega
        obtain ⟨T, hT⟩ : ∃ T, min (totM (m.take k)) 40000 = T := ⟨_, rfl⟩
        obtain ⟨T2, hT2⟩ : ∃ T, min (totM (m.take (k + 1))) 40000 = T := ⟨_, rfl⟩
        have HT2 : Hid (min (totM (m.take (k + 1))) 40000 = T2) := hT2
        have x5 : min ((T : Int) + (m2 : Int) + (m3 : Int)) 40000 = (T2 : Int) := by have := HST.out; omega
        have hT4 : T ≤ 40000 := by omega
        rw [hT]
        have hbl : b < wr.heap.size := Nat.lt_of_lt_of_le hb hB.size
        clear ho hB s9 hm2 hm3 hT hT2 HST
        go_wp2_with fail
        go_quiet (fail)
        go_wp2
        exact ⟨⟨k + 1, by go_num, by rw [HT2.out], by omega, by omega, HB.out.trans ⟨rfl, rfl, rfl, Nat.le_refl _, fun _ _ => rfl⟩⟩, by simp [intOf]; omega⟩
      · have hi4 : ¬ (k : Int) < 100 := by omega
        have h5 : (100 : Int) < (m.length : Int) := by omega
        cases fb
        · go_wp2
          go_ret
          exact ⟨by simp, HB.out⟩
        · go_wp2
          go_ret
          exact ⟨by simp, HB.out⟩
    · have k1 : ¬ (k : Int) < (m.length : Int) := by omega
      have h5 : ¬ (100 : Int) < (m.length : Int) := by omega
      have hmk : m.take k = m := List.take_of_length_le (by omega)
      rw [hmk]
      cases fb
      · go_wp2
        go_ret
        exact ⟨by simp, HB.out⟩
      · by_cases h7 : totM m ≤ 20000
        · have h7' : ¬ (20000 : Int) < ((min (totM m) 40000 : Nat) : Int) := by omega
          have HT7 : Hid (totM m ≤ 20000) := h7
          have HFL : Hid (l.length ≤ 100 ∧ totS l ≤ 20000) := by have := HFB.out; show _ ∧ _; simpa using this
          have hm100 : m.length ≤ 100 := by omega
          generalize (min (totM m) 40000 : Nat) = T at *
          clear HFB h7
          go_wp2_with fail
          have HKw : Hid (w.heap.size ≤ wr.heap.size) := HB.out.size
          refine (new_dsk wr.heap.size wr (Nat.le_refl _)).mono ?_
          rintro r w3 ⟨rfl, hD3, hB3⟩
          obtain ⟨da, hda⟩ : ∃ d, wr.heap.size + 1 = d := ⟨_, rfl⟩
          rw [hda] at hD3 ⊢
          have HD3 : Hid (∃ Sa, Dsk wr.heap.size w3 Sa da ⟨[], 0, false⟩) := ⟨_, hD3⟩
          have HB3 : Hid (Below wr.heap.size wr w3) := hB3
          clear hda hD3 hB3 k1 hlt hk hk1 hmk h5
          go_wp2_with fail
          refine (new_dsk w3.heap.size w3 (Nat.le_refl _)).mono ?_
          rintro r w4 ⟨rfl, hD4, hB4⟩
          obtain ⟨db, hdb⟩ : ∃ d, w3.heap.size + 1 = d := ⟨_, rfl⟩
          rw [hdb] at hD4 ⊢
          have HTW4 : Hid (Tw wr.heap.size wr w4.heap.size w4 w4 da db ⟨[], 0, false⟩ ⟨[], 0, false⟩) := by
            obtain ⟨Sa, h3⟩ := HD3.out
            exact Tw.start (Nat.le_refl _) h3 HB3.out hD4 hB4
          clear hdb hD4 hB4 HD3 HB3
          obtain ⟨K, hK⟩ : ∃ K, wr.heap.size = K := ⟨_, rfl⟩
          rw [hK] at HTW4 HKw
          have HVV : Hid (∀ V, Below K wr V → Vars V) := fun V hV => HV.out V (HB.out.trans (hV.mono HKw.out))
          have HWW : Hid (∀ V, Below K wr V → Below w.heap.size w V) := fun V hV => HB.out.trans (hV.mono HKw.out)
          generalize wr = w0 at *
          clear hK HB HV
          go_wp2_with fail
          go_loopw [11] (fun kv wx => ∃ (k : Nat) (pa : PD), kv = .int .i64 (k : Int) ∧ k ≤ m.length ∧ Tw K w0 w4.heap.size w4 wx da db pa ⟨[], 0, false⟩ ∧ Rm pa k (totM (m.take k)) ∧ NoS pa ∧ NE pa) (fun kv _ => m.length - (intOf kv).toNat)
          case atStart => exact ⟨0, _, rfl, Nat.zero_le _, HTW4.out, Rm.nil _ _, fun i _ _ => rfl, fun f hf => by cases hf⟩
          case round =>
            clear HTW4
            obtain ⟨k, pa, rfl, hk, hT, hR, hNS, hNE⟩ := hrel
            have HT : Hid (Tw K w0 w4.heap.size w4 wr da db pa ⟨[], 0, false⟩) := hT
            have HR : Hid (Rm pa k (totM (m.take k))) := hR
            have HNS : Hid (NoS pa) := hNS
            have HNE : Hid (NE pa) := hNE
            have HBw : Hid (Below w.heap.size w wr) := HWW.out _ hT.bel
            clear hT hR hNS hNE
            by_cases hlt : k < m.length
            · have k1 : (k : Int) < (m.length : Int) := by omega
              have k0 : (0 : Int) ≤ (k : Int) := by omega
              obtain ⟨b, off, ha2, hb, ho⟩ := HM.out.at hlt
              subst ha2
              obtain ⟨⟨e0, e1, e2, e3, e4⟩, s9, q7, -, -⟩ := ho.below hb HBw.out
              have HST : Hid (totM (m.take (k + 1)) = totM (m.take k) + szM (m.getD k nilOp)) := totM_step hlt
              have HLE : Hid (totM (m.take (k + 1)) ≤ 20000) := Nat.le_trans (totM_le m (by omega)) HT7.out
              generalize m.getD k nilOp = o at *
              obtain ⟨kd, on, nm, tn, oa, oc, bb⟩ := o
              simp only [Opn.x] at e0 e1 e2 e3 e4 s9 q7
              have HSL : Hid (Sl w.heap.size wr (.slice oa bb.length oc) bb) := s9
              have hbl : b < wr.heap.size := Nat.lt_of_lt_of_le hb HBw.out.size
              have HQ7 : Hid (nm.length ≤ maxLen) := q7
              have HSZ : Hid (szM ⟨kd, on, nm, tn, oa, oc, bb⟩ = min bb.length 20000 + min nm.length 20000) := rfl
              have HIX : Hid (Calls _ _ _ _ _) := index_all nm (by unfold maxLen at q7; exact q7) wr (HVV.out _ HT.out.bel)
              have HHO : Hid (∀ V, Below w.heap.size w V → V.cell? ⟨b, off + k * 5 + 2, none⟩ = some (.string ⟨nm.toArray⟩) ∧ V.cell? ⟨b, off + k * 5 + 4, none⟩ = some (.slice oa bb.length oc)) := fun V hV => ⟨(ho.below hb hV).1.2.2.1, (ho.below hb hV).1.2.2.2.2⟩
              clear ho s9 e1 e3
              go_wp2_with fail
              refine HIX.out.mono ?_
              rintro r w5 ⟨rfl, hB5⟩
              have HT5 : Hid (Tw K w0 w4.heap.size w4 w5 da db pa ⟨[], 0, false⟩) := HT.out.below hB5
              have HCE : Hid (∀ V, Below w.heap.size w V → True) := fun _ _ => trivial
              have f0 := (hB5.cell (p := ⟨b, off + k * 5, none⟩) hbl).trans e0
              have f2 := (hB5.cell (p := ⟨b, off + k * 5 + 2, none⟩) hbl).trans e2
              have f4 := (hB5.cell (p := ⟨b, off + k * 5 + 4, none⟩) hbl).trans e4
              have hbl5 : b < w5.heap.size := Nat.lt_of_lt_of_le hbl hB5.size
              have HSL5 : Hid (Sl w.heap.size w5 (.slice oa bb.length oc) bb) := HSL.out.below (hB5.mono HBw.out.size)
              clear hB5 HIX HT e0 e2 e4 hbl HSL HCE HBw
              have hnext : ∀ wx pa', Tw K w0 w4.heap.size w4 wx da db pa' ⟨[], 0, false⟩ → Rm pa' (k + 1) (totM (m.take (k + 1))) → NoS pa' → NE pa' → ∃ (k' : Nat) (pa : PD), Value.int .i64 ((k : Int) + 1) = .int .i64 (k' : Int) ∧ k' ≤ m.length ∧ Tw K w0 w4.heap.size w4 wx da db pa ⟨[], 0, false⟩ ∧ Rm pa k' (totM (m.take k')) ∧ NoS pa ∧ NE pa := fun wx pa' h1 h2 h3 h4 => ⟨k + 1, pa', by simp, by omega, h1, h2, h3, h4⟩
              have HNX : Hid (∀ wx pa', Tw K w0 w4.heap.size w4 wx da db pa' ⟨[], 0, false⟩ → Rm pa' (k + 1) (totM (m.take (k + 1))) → NoS pa' → NE pa' → ∃ (k' : Nat) (pa : PD), Value.int .i64 ((k : Int) + 1) = .int .i64 (k' : Int) ∧ k' ≤ m.length ∧ Tw K w0 w4.heap.size w4 wx da db pa ⟨[], 0, false⟩ ∧ Rm pa k' (totM (m.take k')) ∧ NoS pa ∧ NE pa) := hnext
              clear hnext
              have HR5 : Hid (Rm pa (k + 1) (totM (m.take (k + 1)))) := HR.out.mono (by omega) (by rw [HST.out]; omega)
              by_cases hix : 0 < idxL nm
              · have hix' : decide (0 < idxL nm) = true := by simpa using hix
                rw [hix']
                go_wp2
                exact ⟨HNX.out _ _ HT5.out HR5.out HNS.out HNE.out, by simp [intOf]; omega⟩
              · have hix' : decide (0 < idxL nm) = false := by simpa using hix
                have HI0 : Hid (idxL nm = 0) := by show _ = _; omega
                rw [hix']
                clear hix hix'
                by_cases htm : nm = tmpL
                · have ht : (nm == [115, 110, 97, 112, 46, 116, 109, 112]) = true := by rw [htm]; decide
                  clear htm
                  go_wp2
                  exact ⟨HNX.out _ _ HT5.out HR5.out HNS.out HNE.out, by simp [intOf]; omega⟩
                · have ht : (nm == [115, 110, 97, 112, 46, 116, 109, 112]) = false := by
                    have h9 : ¬ nm = [115, 110, 97, 112, 46, 116, 109, 112] := htm
                    simp [h9]
                  have HTM : Hid (nm ≠ tmpL) := htm
                  clear htm
                  by_cases hk0 : kd = 0
                  · subst hk0
                    have HOP : Hid (Calls _ _ _ _ _) := HT5.out.op (X := fun p => doCreate p nm) (fun S k hk hS => create_any hk nm HQ7.out)
                    go_wp2_with fail
                    refine HOP.out.mono ?_
                    rintro r w6 ⟨rfl, hT6⟩
                    have HX : Hid (Tw K w0 w4.heap.size w4 w6 da db (doCreate pa nm).2 ⟨[], 0, false⟩ ∧ Rm (doCreate pa nm).2 (k + 1) (totM (m.take (k + 1))) ∧ NoS (doCreate pa nm).2 ∧ NE (doCreate pa nm).2) := by
                      obtain ⟨r1, r2⟩ := HR.out.create HNS.out HTM.out HI0.out
                      exact ⟨hT6, r1.mono (Nat.le_refl _) (by rw [HST.out]; omega), r2, HNE.out.create nm⟩
                    clear hT6 HOP f0 f2 f4
                    go_wp2
                    exact ⟨HNX.out _ _ HX.out.1 HX.out.2.1 HX.out.2.2.1 HX.out.2.2.2, by simp [intOf]; omega⟩
                  · have hk0' : (kd == 0) = false := by simp [hk0]
                    by_cases hk1 : kd = 1
                    · subst hk1
                      have HOP : Hid (∀ n, Calls Tryz.prog 30 #[.pointer (some ⟨da, 0, none⟩), .string ⟨nm.toArray⟩, .slice oa bb.length oc] (w5.drewN n) fun r V' => ∃ v, r = .returned v ∧ Tw K w0 w4.heap.size w4 V' da db (doAppend pa nm bb).2 ⟨[], 0, false⟩ ∧ V'.cell? ⟨b, off + k * 5 + 2, none⟩ = some (.string ⟨nm.toArray⟩) ∧ V'.cell? ⟨b, off + k * 5 + 4, none⟩ = some (.slice oa bb.length oc)) := fun n => by
                        have h5 : Tw K w0 w4.heap.size w4 (w5.drewN n) da db pa ⟨[], 0, false⟩ := HT5.out.below (below_drewN (Below.refl _ _) n)
                        refine (h5.op (X := fun p => doAppend p nm bb) (fun S k hk hS => append_any hk nm HQ7.out oa oc bb (Sl.slx (M := K) ((HSL5.out.below (below_drewN (Below.refl _ _) n)).mono HKw.out) h5.kz hS))).mono ?_
                        rintro r V' ⟨rfl, hT⟩
                        exact ⟨_, rfl, hT, HHO.out _ (HWW.out _ hT.bel)⟩
                      have HX : Hid (Rm (doAppend pa nm bb).2 (k + 1) (totM (m.take (k + 1))) ∧ NoS (doAppend pa nm bb).2 ∧ NE (doAppend pa nm bb).2) := by
                        have hsz := HSZ.out
                        have hst := HST.out
                        have hle := HLE.out
                        have hb9 : lookP nm pa.fs = none ∨ bb.length ≤ 20000 := by
                          by_cases h9 : nm = []
                          · rw [h9]; exact .inl HNE.out.look
                          · have : 0 < nm.length := List.length_pos_iff.2 h9
                            right
                            omega
                        obtain ⟨r1, r2⟩ := HR.out.append HNS.out nm bb hb9 (rise_nodup HT5.out.riseA)
                        exact ⟨r1.mono (by omega) (by omega), r2, HNE.out.append nm bb⟩
                      clear hk0
                      go_wp2_with fail
                      go_region_held3 (fun W => W.cell? ⟨b, off + k * 5 + 2, none⟩ = some (.string ⟨nm.toArray⟩) ∧ W.cell? ⟨b, off + k * 5 + 4, none⟩ = some (.slice oa bb.length oc)) (go_keep) ((go_at_call 30; refine (HOP.out _).mono ?_; rintro r w6 ⟨v6, rfl, hT6, g2, g4⟩))
                      all_goals go_wp2
                      all_goals exact ⟨HNX.out _ _ hT6 HX.out.1 HX.out.2.1 HX.out.2.2, by simp [intOf]; omega⟩
                    · have hk1' : (kd == 1) = false := by simp [hk1]
                      by_cases hk2 : kd = 2
                      · subst hk2
                        have HOP : Hid (Calls _ _ _ _ _) := HT5.out.op (X := fun p => doSync p nm) (fun S k hk hS => sync_any hk nm HQ7.out)
                        clear hk0 hk1
                        go_wp2_with fail
                        refine HOP.out.mono ?_
                        rintro r w6 ⟨rfl, hT6⟩
                        have HX : Hid (Tw K w0 w4.heap.size w4 w6 da db (doSync pa nm).2 ⟨[], 0, false⟩ ∧ Rm (doSync pa nm).2 (k + 1) (totM (m.take (k + 1))) ∧ NoS (doSync pa nm).2 ∧ NE (doSync pa nm).2) := by
                          obtain ⟨r1, r2⟩ := HR.out.sync HNS.out nm
                          exact ⟨hT6, r1.mono (by omega) (by rw [HST.out]; omega), r2, HNE.out.sync nm⟩
                        clear hT6 HOP f0 f2 f4
                        go_wp2
                        exact ⟨HNX.out _ _ HX.out.1 HX.out.2.1 HX.out.2.2.1 HX.out.2.2.2, by simp [intOf]; omega⟩
                      · have hk2' : (kd == 2) = false := by simp [hk2]
                        clear hk0 hk1 hk2
                        go_wp2
                        exact ⟨HNX.out _ _ HT5.out HR5.out HNS.out HNE.out, by simp [intOf]; omega⟩
            · have k1 : ¬ (k : Int) < (m.length : Int) := by omega
              have hkm : k = m.length := by omega
              subst hkm
              have hmk : m.take m.length = m := List.take_of_length_le (Nat.le_refl _)
              rw [hmk] at HR
              have HFI : Hid (Calls _ _ _ _ _) := HT.out.filesA
              have HAO : Hid (others pa = pa.fs.map PF.says) := all_others HR.out.tmp HNS.out
              clear hmk
              go_wp2_with fail
              refine HFI.out.mono ?_
              rintro r w5 ⟨v5, fs, rfl, hF5, hs5, hf5, hB5⟩
              obtain ⟨fa, fc, hv5⟩ := row_shape_x hF5.row
              subst hv5
              have HF5 : Hid (FilesIn wr.heap.size w5 (.slice fa fs.length fc) fs) := hF5
              have HT5 : Hid (Tw K w0 wr.heap.size w5 w5 da db pa ⟨[], 0, false⟩) := HT.out.anew hB5
              have HS5 : Hid (saysF fs = others pa) := hs5.trans HAO.out.symm
              have HR5 : Hid (Rm pa 100 20000) := HR.out.mono (by omega) HT7.out
              have HBE : Hid (Bes pa ⟨[], 0, false⟩) := HNS.out.bes
              obtain ⟨z0, hz0⟩ : ∃ z, wr.heap.size = z := ⟨_, rfl⟩
              rw [hz0] at HF5 HT5
              obtain ⟨W, hW⟩ : ∃ W, others pa = W := ⟨_, rfl⟩
              have HW : Hid (others pa = W) := hW
              rw [hW] at HS5
              clear hF5 hs5 hB5 HFI HT HR HNS HNE HAO HBw hz0 hW k1 hlt hk
              go_wp2_with fail
              go_loopw [15] (fun kv wx => ∃ (k : Nat) (qa qb : PD), kv = .int .i64 (k : Int) ∧ k ≤ l.length ∧ Tw K w0 z0 w5 wx da db qa qb ∧ Rm qa (100 + k) (20000 + 27 * totS (l.take k) + 40 * k) ∧ Rm qb (100 + k) (20000 + 27 * totS (l.take k) + 40 * k) ∧ Bes qa qb ∧ others qa = W) (fun kv _ => l.length - (intOf kv).toNat)
              case atStart => exact ⟨0, _, _, rfl, Nat.zero_le _, HT5.out, HR5.out.mono (by omega) (by omega), Rm.nil _ _, HBE.out, HW.out⟩
              case round =>
                clear HT5 HR5 HBE HW
                obtain ⟨k, qa, qb, rfl, hk, hT, hRa, hRb, hBe, hOt⟩ := hrel
                have HT : Hid (Tw K w0 z0 w5 wr da db qa qb) := hT
                have HRa : Hid (Rm qa (100 + k) (20000 + 27 * totS (l.take k) + 40 * k)) := hRa
                have HRb : Hid (Rm qb (100 + k) (20000 + 27 * totS (l.take k) + 40 * k)) := hRb
                have HBE : Hid (Bes qa qb) := hBe
                have HOT : Hid (others qa = W) := hOt
                have HBw : Hid (Below w.heap.size w wr) := HWW.out _ hT.bel
                clear hT hRa hRb hBe hOt
                by_cases hlt : k < l.length
                · have k1 : (k : Int) < (l.length : Int) := by omega
                  have k0 : (0 : Int) ≤ (k : Int) := by omega
                  obtain ⟨b, off, ha1, hb, ho⟩ := HO.out.at hlt
                  subst ha1
                  have HST : Hid (totS (l.take (k + 1)) = totS (l.take k) + szS (l.getD k nilSop)) := totS_step hlt
                  have HLE : Hid (totS (l.take (k + 1)) ≤ 20000) := Nat.le_trans (totS_le2 l (by omega)) HFL.out.2
                  have hl100 : l.length ≤ 100 := HFL.out.1
                  generalize l.getD k nilSop = o at *
                  obtain ⟨kd, on, ⟨si, st, sa, sc, sd⟩, od⟩ := o
                  have HSZ : Hid (min sd.length 20000 ≤ szS ⟨kd, on, ⟨si, st, sa, sc, sd⟩, od⟩) := by show _ ≤ _; unfold szS; simp only; omega
                  have HHO : Hid (∀ V, Below w.heap.size w V → (V.cell? ⟨b, off + k * 10, none⟩ = some (.int .i64 kd) ∧ V.cell? ⟨b, off + k * 10 + 1, none⟩ = some (.int .i64 on)) ∧ (V.cell? ⟨b, off + k * 10 + 2, none⟩ = some (.int .i64 si) ∧ V.cell? ⟨b, off + k * 10 + 2 + 1, none⟩ = some (.int .i64 st) ∧ V.cell? ⟨b, off + k * 10 + 2 + 2, none⟩ = some (.slice sa sd.length sc)) ∧ Sl w.heap.size V (.slice sa sd.length sc) sd ∧ b < V.heap.size) := fun V hV => ⟨(ho.below hb hV).1, (ho.below hb hV).2.1.1, (ho.below hb hV).2.1.2, Nat.lt_of_lt_of_le hb hV.size⟩
                  have hon := ho.2.2.2
                  simp only at hon
                  clear ho
                  obtain ⟨⟨e0, e1⟩, ⟨e2, e3, e4⟩, hsl, hbl⟩ := HHO.out wr HBw.out
                  by_cases hk0 : kd = 0
                  · subst hk0
                    have HSA : Hid (Calls _ _ _ _ _) := HT.out.saveA HVV.out si st sd sa sc w.heap.size hsl HKw.out
                    clear hsl
                    go_wp2_with fail
                    refine HSA.out.mono ?_
                    rintro r w6 ⟨rfl, hT6⟩
                    have HT6 : Hid (Tw K w0 z0 w5 w6 da db (saveP qa si st sd).2 qb) := hT6
                    clear hT6 HSA e0 e1 e2 e3 e4 hbl HBw
                    obtain ⟨⟨e0, e1⟩, ⟨e2, e3, e4⟩, hsl, hbl⟩ := HHO.out w6 (HWW.out _ HT6.out.bel)
                    have HSB : Hid (Calls _ _ _ _ _) := HT6.out.saveB HVV.out si st sd sa sc w.heap.size hsl HKw.out
                    clear hsl
                    go_wp2_with fail
                    refine HSB.out.mono ?_
                    rintro r w7 ⟨rfl, hT7⟩
                    have HX : Hid (∃ qa' qb', Tw K w0 z0 w5 w7 da db qa' qb' ∧ Rm qa' (100 + (k + 1)) (20000 + 27 * totS (l.take (k + 1)) + 40 * (k + 1)) ∧ Rm qb' (100 + (k + 1)) (20000 + 27 * totS (l.take (k + 1)) + 40 * (k + 1)) ∧ Bes qa' qb' ∧ others qa' = W) := by
                      have h1 := HST.out
                      have h2 := HLE.out
                      have h3 := HSZ.out
                      have h4 : totS (l.take k) ≤ 20000 := by omega
                      obtain ⟨a1, a2, a3⟩ := HRa.out.save (by omega) si st sd (by omega)
                      obtain ⟨b1, b2, b3⟩ := HRb.out.save (by omega) si st sd (by omega)
                      exact ⟨_, _, hT7, a1.mono (by omega) (by omega), b1.mono (by omega) (by omega), HBE.out.save si st sd a2 b2, a3.trans HOT.out⟩
                    clear hT7 HSB e0 e1 e2 e3 e4 hbl
                    go_wp2
                    obtain ⟨qa', qb', x1, x2, x3, x4, x5⟩ := HX.out
                    exact ⟨⟨k + 1, qa', qb', by go_num, by omega, x1, x2, x3, x4, x5⟩, by simp [intOf]; omega⟩
                  · have hk0' : (kd == 0) = false := by simp [hk0]
                    by_cases hk1 : kd = 1
                    · subst hk1
                      clear hk0 hsl
                      have h1' := HST.out
                      by_cases hn : on < 1
                      · have HX : Hid (Rm qa (100 + (k + 1)) (20000 + 27 * totS (l.take (k + 1)) + 40 * (k + 1)) ∧ Rm qb (100 + (k + 1)) (20000 + 27 * totS (l.take (k + 1)) + 40 * (k + 1))) := ⟨HRa.out.mono (by omega) (by omega), HRb.out.mono (by omega) (by omega)⟩
                        have HKL : Hid (on < 1) := hn
                        clear h1' hn
                        go_wp2_with (first | (go_at_call 28; refine (keep_less _ on HKL.out _).mono ?_; rintro r wz ⟨⟨x1, y1, rfl⟩, hwz⟩; subst wz) | fail)
                        exact ⟨⟨k + 1, qa, qb, by go_num, by omega, HT.out, HX.out.1, HX.out.2, HBE.out, HOT.out⟩, by simp [intOf]; omega⟩
                      · obtain ⟨n, hnn⟩ : ∃ n : Nat, on = (n : Int) := ⟨on.toNat, by omega⟩
                        subst hnn
                        have HKA : Hid (Calls _ _ _ _ _) := HT.out.keepA HVV.out n (by omega) (by omega)
                        clear h1'
                        go_wp2_with fail
                        refine HKA.out.mono ?_
                        rintro r w6 ⟨⟨x1, y1, rfl⟩, hT6⟩
                        have HT6 : Hid (Tw K w0 z0 w5 w6 da db (remL qa (spareL qa n)).2 qb) := hT6
                        clear hT6 HKA e0 e1 e2 e3 e4 hbl HBw
                        obtain ⟨⟨e0, e1⟩, ⟨e2, e3, e4⟩, hsl, hbl⟩ := HHO.out w6 (HWW.out _ HT6.out.bel)
                        have HKB : Hid (Calls _ _ _ _ _) := HT6.out.keepB HVV.out n (by omega) (by omega)
                        clear hsl
                        go_wp2_with fail
                        refine HKB.out.mono ?_
                        rintro r w7 ⟨⟨x2, y2, rfl⟩, hT7⟩
                        have HX : Hid (∃ qa' qb', Tw K w0 z0 w5 w7 da db qa' qb' ∧ Rm qa' (100 + (k + 1)) (20000 + 27 * totS (l.take (k + 1)) + 40 * (k + 1)) ∧ Rm qb' (100 + (k + 1)) (20000 + 27 * totS (l.take (k + 1)) + 40 * (k + 1)) ∧ Bes qa' qb' ∧ others qa' = W) := by
                          have h1 := HST.out
                          obtain ⟨a1, a3⟩ := HRa.out.keep n
                          obtain ⟨b1, b3⟩ := HRb.out.keep n
                          exact ⟨_, _, hT7, a1.mono (by omega) (by omega), b1.mono (by omega) (by omega), HBE.out.keep HT.out.riseA HT.out.riseB HRa.out HRb.out, a3.trans HOT.out⟩
                        clear hT7 HKB e0 e1 e2 e3 e4 hbl
                        go_wp2
                        obtain ⟨qa', qb', x1, x2, x3, x4, x5⟩ := HX.out
                        exact ⟨⟨k + 1, qa', qb', by go_num, by omega, x1, x2, x3, x4, x5⟩, by simp [intOf]; omega⟩
                    · have hk1' : (kd == 1) = false := by simp [hk1]
                      clear hk0 hk1 hsl
                      have HX : Hid (Rm qa (100 + (k + 1)) (20000 + 27 * totS (l.take (k + 1)) + 40 * (k + 1)) ∧ Rm qb (100 + (k + 1)) (20000 + 27 * totS (l.take (k + 1)) + 40 * (k + 1))) := by
                        have h1 := HST.out
                        exact ⟨HRa.out.mono (by omega) (by omega), HRb.out.mono (by omega) (by omega)⟩
                      go_wp2
                      exact ⟨⟨k + 1, qa, qb, by go_num, by omega, HT.out, HX.out.1, HX.out.2, HBE.out, HOT.out⟩, by simp [intOf]; omega⟩
                · have k1 : ¬ (k : Int) < (l.length : Int) := by omega
                  have HEQ : Hid (listP qa = listP qb ∧ loadS qa = loadS qb) := HBE.out.list HT.out.riseA HT.out.riseB
                  have HLA : Hid (∀ V, Tw K w0 z0 w5 V da db qa qb → Calls Tryz.prog 12 #[.pointer (some ⟨da, 0, none⟩)] V fun r V' => LdR V (loadS qa) r V') := fun V hT => by
                    obtain ⟨S, hD, -⟩ := hT.opA
                    exact load_any hD (fun V' hV' => HVV.out V' (hT.bel.trans (hV'.mono hT.kz)))
                  have HLB : Hid (∀ V, Tw K w0 z0 w5 V da db qa qb → Calls Tryz.prog 12 #[.pointer (some ⟨db, 0, none⟩)] V fun r V' => LdR V (loadS qa) r V') := fun V hT => by
                    obtain ⟨S, hD, -⟩ := hT.opB
                    rw [HEQ.out.2]
                    exact load_any hD (fun V' hV' => HVV.out V' (hT.bel.trans (hV'.mono hT.kz)))
                  have HIA : Hid (∀ V, Tw K w0 z0 w5 V da db qa qb → Calls Tryz.prog 16 #[.pointer (some ⟨da, 0, none⟩)] V fun r V' => ∃ a c, r = .returned (.slice a (listP qa).length c) ∧ In.Ow V.heap.size V' (.slice a (listP qa).length c) (ixI (listP qa)) ∧ Below V.heap.size V V') := fun V hT => by
                    obtain ⟨S, hD, -⟩ := hT.opA
                    exact list_s hD (fun V' hV' => HVV.out V' (hT.bel.trans (hV'.mono hT.kz)))
                  have HIB : Hid (∀ V, Tw K w0 z0 w5 V da db qa qb → Calls Tryz.prog 16 #[.pointer (some ⟨db, 0, none⟩)] V fun r V' => ∃ a c, r = .returned (.slice a (listP qa).length c) ∧ In.Ow V.heap.size V' (.slice a (listP qa).length c) (ixI (listP qa)) ∧ Below V.heap.size V V') := fun V hT => by
                    obtain ⟨S, hD, -⟩ := hT.opB
                    rw [HEQ.out.1]
                    exact list_s hD (fun V' hV' => HVV.out V' (hT.bel.trans (hV'.mono hT.kz)))
                  have HNM : Hid (∀ f ∈ qa.fs, f.nm.length ≤ 32) := by
                    obtain ⟨S, hD, -⟩ := HT.out.opA
                    exact hD.nml
                  generalize listP qa = li at *
                  obtain ⟨y, hy⟩ : ∃ y, loadS qa = y := ⟨_, rfl⟩
                  rw [hy] at HLA HLB
                  obtain ⟨⟨wi, wt, wm⟩, wk, we⟩ := y
                  clear hy HEQ HBw HRa HRb HBE HO HM
                  go_wp2_with fail
                  refine (HLA.out wr HT.out).mono ?_
                  rintro r w6 ⟨u6, rfl, hO6, hB6⟩
                  obtain ⟨a6, c6, hsh, -, -⟩ := hO6.shape
                  subst hsh
                  simp only at hO6 ⊢
                  obtain ⟨V6, hV6⟩ : ∃ V6, w6.alloc (.cells #[.int .i64 (wi : Int), .int .i64 (wt : Int), .slice a6 wm.length c6] 34) = V6 := ⟨_, rfl⟩
                  have HV6 : Hid (w6.alloc (.cells #[.int .i64 (wi : Int), .int .i64 (wt : Int), .slice a6 wm.length c6] 34) = V6) := hV6
                  have hB6V : Below w6.heap.size w6 V6 := by rw [← hV6]; exact (Below.refl _ w6).alloc (Nat.le_refl _) _
                  have hx6 : V6.heap[w6.heap.size]? = some (.cells #[.int .i64 (wi : Int), .int .i64 (wt : Int), .slice a6 wm.length c6] 34 (0, 0)) := by rw [← hV6]; exact heap_alloc_new w6 _
                  have HX6 : Hid (V6.heap[w6.heap.size]? = some (.cells #[.int .i64 (wi : Int), .int .i64 (wt : Int), .slice a6 wm.length c6] 34 (0, 0))) := hx6
                  have HO6 : Hid (Ow wr.heap.size V6 (.slice a6 wm.length c6) wm) := hO6.below hB6V (Nat.le_refl _)
                  have HT6 : Hid (Tw K w0 z0 w5 V6 da db qa qb) := HT.out.below (hB6.trans (hB6V.mono hB6.size))
                  clear hO6 hB6 hV6 hB6V hx6 HLA k1 hlt hk HT
                  go_wp2_with fail
                  rw [HV6.out]
                  refine (HLB.out V6 HT6.out).mono ?_
                  rintro r w7 ⟨u7, rfl, hO7, hB7⟩
                  obtain ⟨a7, c7, hsh, -, -⟩ := hO7.shape
                  subst hsh
                  simp only at hO7 ⊢
                  obtain ⟨V7, hV7⟩ : ∃ V7, w7.alloc (.cells #[.int .i64 (wi : Int), .int .i64 (wt : Int), .slice a7 wm.length c7] 34) = V7 := ⟨_, rfl⟩
                  have HV7 : Hid (w7.alloc (.cells #[.int .i64 (wi : Int), .int .i64 (wt : Int), .slice a7 wm.length c7] 34) = V7) := hV7
                  have hB7V : Below w7.heap.size w7 V7 := by rw [← hV7]; exact (Below.refl _ w7).alloc (Nat.le_refl _) _
                  have hl6 : w6.heap.size < V6.heap.size := (Array.getElem?_eq_some_iff.1 HX6.out).1
                  have hx7 : w7.heap[w6.heap.size]? = some (.cells #[.int .i64 (wi : Int), .int .i64 (wt : Int), .slice a6 wm.length c6] 34 (0, 0)) := (hB7.block _ hl6).trans HX6.out
                  obtain ⟨⟨p0, p1, p2⟩, -⟩ := Cd.cells3 hx7
                  have l1 : w6.heap.size < w7.heap.size := (Array.getElem?_eq_some_iff.1 hx7).1
                  have hsl1 : Sl V7.heap.size V7 (.slice a6 wm.length c6) wm := ((HO6.out.below hB7 (Nat.le_refl _)).below hB7V (Nat.le_refl _)).sl (Nat.le_refl _)
                  have hsl2 : Sl V7.heap.size V7 (.slice a7 wm.length c7) wm := (hO7.below hB7V (Nat.le_refl _)).sl (Nat.le_refl _)
                  have HSM : Hid (Calls _ _ _ _ _) := Cd.sameSnap_any (wi : Int) (wt : Int) a6 c6 wm (wi : Int) (wt : Int) a7 c7 wm V7.heap.size V7 (show Cd.Sl _ _ _ _ from hsl1) (show Cd.Sl _ _ _ _ from hsl2) (Nat.le_refl _)
                  have HT7' : Hid (Tw K w0 z0 w5 V7 da db qa qb) := HT6.out.below (hB7.trans (hB7V.mono hB7.size))
                  clear hO7 hB7 hV7 hB7V hl6 hx7 hsl1 hsl2 HLB HT6 HO6 HX6 HV6
                  go_wp2_with fail
                  rw [HV7.out]
                  refine HSM.out.mono ?_
                  rintro r w8 ⟨rfl, hB8⟩
                  first | rw [be_same] | rw [be_same2]
                  have HT8 : Hid (Tw K w0 z0 w5 w8 da db qa qb) := HT7'.out.below hB8
                  clear hB8 HSM p0 p1 p2 l1 HT7' HV7
                  go_wp2_with fail
                  refine (HIA.out w8 HT8.out).mono ?_
                  rintro r w9 ⟨a9, c9, rfl, hO9, hB9⟩
                  have HT9 : Hid (Tw K w0 z0 w5 w9 da db qa qb) := HT8.out.below hB9
                  have HO9 : Hid (In.Ow w8.heap.size w9 (.slice a9 li.length c9) (ixI li)) := hO9
                  clear hO9 hB9 HIA HT8
                  go_wp2_with fail
                  refine (HIB.out w9 HT9.out).mono ?_
                  rintro r w10 ⟨a10, c10, rfl, hO10, hB10⟩
                  have HSI : Hid (Calls _ _ _ _ _) := In.same_any w10.heap.size _ _ _ _ w10 ((HO9.out.below hB10 (Nat.le_refl _)).sl (Nat.le_refl _)) (hO10.sl (Nat.le_refl _))
                  have HT10 : Hid (Tw K w0 z0 w5 w10 da db qa qb) := HT9.out.below hB10
                  clear hO10 hB10 HIB HT9 HO9
                  go_wp2_with fail
                  refine HSI.out.mono ?_
                  rintro r w11 ⟨rfl, nn, hw11⟩
                  have HT11 : Hid (Tw K w0 z0 w5 w11 da db qa qb) := by
                    show Tw _ _ _ _ _ _ _ _ _
                    rw [hw11]
                    exact HT10.out.below (below_drewN (Below.refl _ _) nn)
                  first | rw [show decide (ixI li = ixI li) = true by simp] | rw [show decide True = true by simp]
                  clear hw11 HSI HT10
                  have HFI : Hid (Calls _ _ _ _ _) := HT11.out.filesA
                  go_wp2_with fail
                  refine HFI.out.mono ?_
                  rintro r w12 ⟨v12, gs, rfl, hF12, hs12, hg12, hB12⟩
                  obtain ⟨ga, gc, hv12⟩ := row_shape_x hF12.row
                  subst hv12
                  have HF12 : Hid (FilesIn w11.heap.size w12 (.slice ga gs.length gc) gs) := hF12
                  have HT12 : Hid (Tw K w0 z0 w5 w12 da db qa qb) := HT11.out.below hB12
                  have HWF : Hid (saysF fs = (saysF gs).filter othS) := by
                    show _ = _
                    rw [HS5.out, ← HOT.out, others_eq, hs12]
                  have HNG : Hid (∀ g ∈ gs, g.nm.length ≤ 32) := fun g hg => by
                    have h9 : g.says ∈ qa.fs.map PF.says := by rw [← hs12]; exact List.mem_map_of_mem hg
                    obtain ⟨f, hf, e⟩ := List.mem_map.1 h9
                    have e1 : f.nm = g.nm := congrArg Prod.fst e
                    rw [← e1]; exact HNM.out f hf
                  clear hF12 hs12 hB12 HFI HT11 HNM HOT HS5
                  go_wp2_with fail
                  have hgsz : (saysF gs).length = gs.length := by unfold saysF; simp
                  have hfsz : (saysF fs).length = fs.length := by unfold saysF; simp
                  have HGSZ : Hid ((saysF gs).length = gs.length) := hgsz
                  have HFSZ : Hid ((saysF fs).length = fs.length) := hfsz
                  clear hgsz hfsz
                  go_loopw [24, 25] (fun av kv wx => ∃ k : Nat, kv = .int .i64 (k : Int) ∧ av = .int .i64 ((((saysF gs).take k).filter othS).length : Int) ∧ k ≤ gs.length ∧ Below w12.heap.size w12 wx) (fun _ kv _ => gs.length - (intOf kv).toNat)
                  case atStart => exact ⟨0, rfl, by simp, Nat.zero_le _, Below.refl _ _⟩
                  case round =>
                    obtain ⟨k, rfl, rfl, hk, hB⟩ := hrel
                    have HB : Hid (Below w12.heap.size w12 wr) := hB
                    clear hB
                    by_cases hlt : k < gs.length
                    · have k1 : (k : Int) < (gs.length : Int) := by omega
                      have k0 : (0 : Int) ≤ (k : Int) := by omega
                      have hGF : FilesIn w11.heap.size wr (.slice ga gs.length gc) gs := ⟨row_below HF12.out.row HB.out, fun f hf => (HF12.out.own f hf).below HB.out (Nat.le_refl _)⟩
                      obtain ⟨a', c', e, -, -, hat⟩ := hGF.at
                      injection e with e1 e2 e3
                      subst e1 e3
                      obtain ⟨b, off, hga, hbl, hc⟩ := hat.resolve_left (fun e => by rw [e] at hlt; simp at hlt)
                      subst hga
                      obtain ⟨c0, c1, c2, s1⟩ := hc k hlt
                      have hgm : gs.getD k nilFl ∈ gs := by rw [List.getD_eq_getElem?_getD, List.getElem?_eq_getElem hlt]; exact List.getElem_mem _
                      have h32 := HNG.out _ hgm
                      have HMK : Hid ((saysF gs)[k]? = some (gs.getD k nilFl).says) := by
                        show _ = _
                        unfold saysF
                        rw [List.getElem?_map, List.getD_eq_getElem?_getD, List.getElem?_eq_getElem hlt]
                        rfl
                      have HTK : Hid ((((saysF gs).take (k + 1)).filter othS).length = (((saysF gs).take k).filter othS).length + (if othS (gs.getD k nilFl).says then 1 else 0)) := by
                        show _ = _
                        have hlt' : k < (saysF gs).length := by have := HGSZ.out; omega
                        rw [List.take_succ_eq_append_getElem hlt', List.filter_append, List.length_append]
                        have e9 : (saysF gs)[k] = (gs.getD k nilFl).says := by
                          have := HMK.out
                          rw [List.getElem?_eq_getElem hlt'] at this
                          exact Option.some.inj this
                        rw [e9]
                        by_cases h9 : othS (gs.getD k nilFl).says = true
                        · rw [if_pos h9, List.filter_cons_of_pos h9]; rfl
                        · rw [if_neg h9, List.filter_cons_of_neg h9]; rfl
                      obtain ⟨at', hat'⟩ : ∃ n, (((saysF gs).take k).filter othS).length = n := ⟨_, rfl⟩
                      have HAT : Hid (othS (gs.getD k nilFl).says = true → (saysF fs)[at']? = some (gs.getD k nilFl).says) := fun h9 => by
                        rw [HWF.out, ← hat']
                        exact filter_at othS (saysF gs) k _ HMK.out h9
                      rw [hat'] at HTK ⊢
                      have HIX : Hid (Calls _ _ _ _ _) := index_all (gs.getD k nilFl).nm (by omega) wr (HVV.out _ (HT12.out.below HB.out).bel)
                      have HSL1 : Hid (Sl wr.heap.size wr (gs.getD k nilFl).x (gs.getD k nilFl).dat) := s1
                      clear hat' hc hat e2 hGF hgm s1 h32
                      generalize gs.getD k nilFl = f at *
                      have HFS : Hid (f.says = (f.nm, f.dat, f.syn)) := rfl
                      go_wp2_with fail
                      refine HIX.out.mono ?_
                      rintro r w13 ⟨rfl, hB13⟩
                      have HB13 : Hid (Below w12.heap.size w12 w13) := HB.out.trans (hB13.mono HB.out.size)
                      have f0 := (hB13.cell (p := ⟨b, off + k * 3, none⟩) hbl).trans c0
                      have f1 := (hB13.cell (p := ⟨b, off + k * 3 + 1, none⟩) hbl).trans c1
                      have f2 := (hB13.cell (p := ⟨b, off + k * 3 + 2, none⟩) hbl).trans c2
                      have hbl3 : b < w13.heap.size := Nat.lt_of_lt_of_le hbl hB13.size
                      have HSL13 : Hid (Sl wr.heap.size w13 f.x f.dat) := HSL1.out.below hB13
                      have hz13 : wr.heap.size ≤ w13.heap.size := hB13.size
                      clear hB13 HIX HSL1 c0 c1 c2 hbl HMK
                      by_cases hix : 0 < idxL f.nm
                      · have hix' : decide (0 < idxL f.nm) = true := by simpa using hix
                        have HTK2 : Hid ((((saysF gs).take (k + 1)).filter othS).length = at') := by
                          show _ = _
                          rw [HTK.out, HFS.out, show othS (f.nm, f.dat, f.syn) = false by unfold othS; rw [show decide (idxL f.nm = 0) = false by simp; omega]; rfl]; rfl
                        rw [hix']
                        go_wp2
                        exact ⟨⟨k + 1, by go_num, by rw [HTK2.out], by omega, HB13.out⟩, by simp [intOf]; omega⟩
                      · have hix' : decide (0 < idxL f.nm) = false := by simpa using hix
                        have HI0 : Hid (idxL f.nm = 0) := by show _ = _; omega
                        rw [hix']
                        clear hix hix'
                        by_cases htm : f.nm = tmpL
                        · have ht : (f.nm == [115, 110, 97, 112, 46, 116, 109, 112]) = true := by rw [htm]; decide
                          have HTK2 : Hid ((((saysF gs).take (k + 1)).filter othS).length = at') := by
                            show _ = _
                            rw [HTK.out, HFS.out, show othS (f.nm, f.dat, f.syn) = false by unfold othS; simp [htm]]; rfl
                          clear htm
                          generalize f.nm = nm at *
                          go_wp2
                          exact ⟨⟨k + 1, by go_num, by rw [HTK2.out], by omega, HB13.out⟩, by simp [intOf]; omega⟩
                        · have ht : (f.nm == [115, 110, 97, 112, 46, 116, 109, 112]) = false := by
                            have h9 : ¬ f.nm = [115, 110, 97, 112, 46, 116, 109, 112] := htm
                            simp [h9]
                          have hoth : othS f.says = true := by rw [HFS.out]; unfold othS; simp [htm, HI0.out]
                          have HTK2 : Hid ((((saysF gs).take (k + 1)).filter othS).length = at' + 1) := by show _ = _; rw [HTK.out, if_pos hoth]
                          have hat2 := HAT.out hoth
                          have halt : at' < fs.length := by
                            have := (List.getElem?_eq_some_iff.1 hat2).1
                            rw [HFSZ.out] at this
                            exact this
                          have hge : (fs.getD at' nilFl).says = f.says := by
                            unfold saysF at hat2
                            rw [List.getElem?_map, List.getElem?_eq_getElem halt] at hat2
                            rw [List.getD_eq_getElem?_getD, List.getElem?_eq_getElem halt]
                            exact Option.some.inj hat2
                          have g1 : (fs.getD at' nilFl).nm = f.nm := congrArg Prod.fst hge
                          have g2 : (fs.getD at' nilFl).dat = f.dat := congrArg (fun x => x.2.1) hge
                          have g3 : (fs.getD at' nilFl).syn = f.syn := congrArg (fun x => x.2.2) hge
                          obtain ⟨a', c', e, -, -, hat⟩ := ((HT12.out.below HB13.out).files HF5.out).at
                          injection e with e1 e2 e3
                          subst e1 e3
                          obtain ⟨b2, off2, hga, hbl2, hc⟩ := hat.resolve_left (fun e => by rw [e] at halt; simp at halt)
                          subst hga
                          obtain ⟨d0, d1, d2, s2⟩ := hc at' halt
                          rw [g1] at d0
                          rw [g3] at d2
                          rw [g2] at s2
                          have HSB : Hid (∀ n, Calls Tryz.prog 33 #[f.x, (fs.getD at' nilFl).x] (w13.drewN n) fun e w' => e = .returned (.bool true) ∧ ∃ q, w' = (w13.drewN n).drewN q) := fun n => by
                            have := same_any w13.heap.size f.x (fs.getD at' nilFl).x f.dat f.dat (w13.drewN n) ((HSL13.out.mono hz13).below (below_drewN (Below.refl _ _) n)) (s2.below (below_drewN (Below.refl _ _) n))
                            rw [show decide (f.dat = f.dat) = true by simp] at this
                            exact this
                          have o1 : ¬ (fs.length : Int) ≤ (at' : Int) := by omega
                          have o2 : ¬ fs.length ≤ at' := by omega
                          have o3 : decide (fs.length ≤ at') = false := by simp; omega
                          have o4 : decide ((fs.length : Int) ≤ (at' : Int)) = false := by simp; omega
                          have i0 : (0 : Int) ≤ (at' : Int) := by omega
                          have i1 : (at' : Int) < (fs.length : Int) := by omega
                          clear htm hoth hat2 hge g1 g2 g3 hc hat e2 s2 HSL13 HAT HTK HFS
                          generalize (fs.getD at' nilFl).x = gx at *
                          generalize f.x = fx at *
                          generalize f.nm = nm at *
                          generalize f.syn = sy at *
                          go_wp2_with fail
                          go_quiet ((go_at_call 33; exact Calls.quiet_of (HSB.out _)))
                          go_wp2
                          exact ⟨⟨k + 1, by go_num, by rw [HTK2.out]; go_num, by omega, below_drewN HB13.out _⟩, by simp [intOf]; omega⟩
                    · have k1 : ¬ (k : Int) < (gs.length : Int) := by omega
                      have hkk : (((saysF gs).take k).filter othS).length = fs.length := by
                        rw [List.take_of_length_le (by have := HGSZ.out; omega), ← HWF.out, HFSZ.out]
                      rw [hkk]
                      have HFIN : Hid (Below w.heap.size w wr) := HWW.out _ (HT12.out.below HB.out).bel
                      clear hkk
                      go_wp2
                      go_ret
                      exact ⟨by first | rfl | simp, HFIN.out⟩
        · have h7' : (20000 : Int) < ((min (totM m) 40000 : Nat) : Int) := by omega
          generalize (min (totM m) 40000 : Nat) = T at *
          go_wp2
          go_ret
          exact ⟨by simp, HB.out⟩
end Go.Proofs.YtadajbdmlmickaaGreatDoor
