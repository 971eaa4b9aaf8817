/-
  Events, replies, operations as text: the law's walk.
-/
import Derived.Test.YtbckogojnjmjcaaGreatDoorJed
import Derived.Deep.DeepCutAuto
namespace Go.Proofs.YtbckogojnjmjcaaGreatDoor
open Go.RowKit Go.Shelf

/-- What may come of an event, an operation. -/
structure ExOk (x : Ox) : Prop where
  ok : OxOk x
  kind : InZ x.kind
  code : InZ x.code
set_option maxRecDepth 100000 in
set_option maxHeartbeats 8000000 in
theorem events_walk (w : World) (hv : Vars w) (err : Int) (did : Bool) (a : Option Addr) (c : Nat) (l : List Ev) (he : InZ err) (hl : l.length ≤ maxLen) (hok : ∀ e ∈ l, EvOk e) (hE : EvsAt w.heap.size w a l) (x : Ox) (hx : OxOk x) : Calls Tryz.prog 6 #[.agg #[.int .i64 err, .bool did, .slice a l.length c], .agg x.cells] w fun e w' => e = .returned (.bool true) ∧ Below w.heap.size w w' := by
  obtain ⟨W0, hW0⟩ : ∃ W0, (w.alloc (.cells #[.int .i64 err, .bool did, .slice a l.length c] 68)).alloc (.cells x.cells 72) = W0 := ⟨_, rfl⟩
  have HB0 : Hid (Below w.heap.size w W0) := by show Below _ _ _; rw [← hW0]; exact ((Below.refl _ _).alloc (Nat.le_refl _) _).alloc (by simp) _
  have hs0 : W0.heap.size = w.heap.size + 2 := by rw [← hW0]; simp
  have hT0 : W0.heap[w.heap.size]? = some (.cells #[.int .i64 err, .bool did, .slice a l.length c] 68 (0, 0)) := by rw [← hW0, Below.heap_alloc _ _ _ (by simp)]; exact heap_alloc_new w _
  have hX0 : W0.heap[w.heap.size + 1]? = some (.cells x.cells 72 (0, 0)) := by
    rw [← hW0]
    have := heap_alloc_new (w.alloc (.cells #[.int .i64 err, .bool did, .slice a l.length c] 68)) (.cells x.cells 72)
    rwa [World.size_alloc] at this
  have HW0 : Hid (_ = W0) := hW0
  have HE : Hid (EvsAt w.heap.size w a l) := hE
  have HV : Hid (∀ W, Below w.heap.size w W → Vars W) := fun W h => hv.below h
  have HEV : Hid (∀ e, e ∈ l → EvOk e) := hok
  have HXO : Hid (OxOk x) := hx
  have HFI := first_any W0 (hv.below HB0.out)
  have HIE : Hid (InZ err) := he
  obtain ⟨client, seq, kind, key, value, old, call, back, code, val⟩ := x
  unfold Ox.cells at *
  simp only at *
  clear hW0 hv hE hok hx he
  generalize hn : l.length = n at *
  have HN : Hid (l.length = n) := hn
  clear hn
  unfold maxLen at hl
  go_enter Tryz.func6, Tryz.ntmps6
  go_upto_region 1 with fail
  rw [HW0.out]
  go_wp2_with (go_at_call 7; refine HFI.mono ?_; rintro r w1 ⟨rfl, hB1⟩; have HT1 : Hid (w1.heap[w.heap.size]? = some (.cells #[.int .i64 err, .bool did, .slice a n c] 68 (0, 0))) := (hB1.block _ (by omega)).trans hT0; have HX1 : Hid (w1.heap[w.heap.size + 1]? = some (.cells #[.int .i64 client, .int .i64 seq, .int .i64 kind, .string ⟨key.toArray⟩, .string ⟨value.toArray⟩, .string ⟨old.toArray⟩, .int .i64 call, .int .i64 back, .int .i64 code, .string ⟨val.toArray⟩] 72 (0, 0))) := (hB1.block _ (by omega)).trans hX0; have hs1 : w.heap.size + 2 ≤ w1.heap.size := (by have := hB1.size; omega); have HB1 : Hid (Below w.heap.size w w1) := HB0.out.trans (hB1.mono (by omega)); have ct2 : w1.cell? ⟨w.heap.size, 2, none⟩ = some (.slice a n c) := (by have h0 := HT1.out; simp only [World.cell?, h0]; rfl); clear hB1)
  clear HFI hT0 hX0 HB0 HW0
  go_loopw [6, 7] (fun vn vi wr => ∃ (k : Nat) (nn : Int), vi = .int .i64 k ∧ k ≤ n ∧ k ≤ 200 ∧ vn = .int .i64 nn ∧ 0 ≤ nn ∧ nn ≤ 40000 ∧ wr = w1) (fun _ i _ => n - (intOf i).toNat)
  case atStart => exact ⟨0, 0, rfl, by omega, by omega, rfl, by omega, by omega, rfl⟩
  case round =>
    obtain ⟨k, nn, rfl, hk, hk2, rfl, hn0, hn1, rfl⟩ := hrel
    by_cases hlt : k < n ∧ k < 200
    · obtain ⟨hlt, hlt2⟩ := hlt
      have hkl : k < l.length := by rw [HN.out]; exact hlt
      rcases HE.out with h0 | ⟨b, off, rfl, hb, hE2⟩
      · rw [h0] at hkl; simp at hkl
      obtain ⟨e0, e1, e2, e3, e4, e5⟩ := (hE2 k hkl).below hb HB1.out
      have hva := (HEV.out _ (eat_mem hkl)).val
      generalize (eat l k).val = vl at *
      have hmn : min (vl.length : Int) 20000 ≤ 20000 := by omega
      clear e0 e1 e2 e3 e4 hE2 hkl
      go_wp2
      refine ⟨⟨k + 1, _, by simp, by omega, by omega, rfl, ?_, ?_, by trivial⟩, by simp [intOf]; omega⟩
      · omega
      · omega
    by_cases h200 : 200 < n
    · have hk3 : k < n := by omega
      have hk4 : ¬ k < 200 := by omega
      clear hlt
      go_wp2
      go_ret
      exact ⟨rfl, HB1.out⟩
    have hke : k = n := by omega
    subst hke
    have cx3 : wr.cell? ⟨w.heap.size + 1, 3, none⟩ = some (.string ⟨key.toArray⟩) := by have h0 := HX1.out; simp only [World.cell?, h0]; rfl
    have cx4 : wr.cell? ⟨w.heap.size + 1, 4, none⟩ = some (.string ⟨value.toArray⟩) := by have h0 := HX1.out; simp only [World.cell?, h0]; rfl
    have cx5 : wr.cell? ⟨w.heap.size + 1, 5, none⟩ = some (.string ⟨old.toArray⟩) := by have h0 := HX1.out; simp only [World.cell?, h0]; rfl
    have cx9 : wr.cell? ⟨w.heap.size + 1, 9, none⟩ = some (.string ⟨val.toArray⟩) := by have h0 := HX1.out; simp only [World.cell?, h0]; rfl
    clear hlt
    by_cases hnn : 20000 < nn
    · go_wp2
      go_ret
      exact ⟨rfl, HB1.out⟩
    by_cases hk1 : 20000 < key.length
    · go_wp2
      go_ret
      exact ⟨rfl, HB1.out⟩
    by_cases hk2 : 20000 < value.length
    · go_wp2
      go_ret
      exact ⟨rfl, HB1.out⟩
    by_cases hk3 : 20000 < old.length
    · go_wp2
      go_ret
      exact ⟨rfl, HB1.out⟩
    by_cases hk4 : 20000 < val.length
    · go_wp2
      go_ret
      exact ⟨rfl, HB1.out⟩
    have ct0 : wr.cell? ⟨w.heap.size, 0, none⟩ = some (.int .i64 err) := by have h0 := HT1.out; simp only [World.cell?, h0]; rfl
    have ct1 : wr.cell? ⟨w.heap.size, 1, none⟩ = some (.bool did) := by have h0 := HT1.out; simp only [World.cell?, h0]; rfl
    have HNU := num_any
    obtain ⟨rcT, -⟩ := stays (W := wr) (R := w.heap.size) (by omega)
    go_upto_region 9 with fail
    clear ct2 cx3 cx4 cx5 cx9
    go_cut [8] (fun v wx => v = .pointer (some ⟨wr.heap.size, 0, none⟩) ∧ Hid (wx.heap[wr.heap.size]? = some (.cells #[.int .i64 err, .bool did, .slice none 0 0] 77 (0, 0))) ∧ Hid (Below wr.heap.size wr wx))
    case first =>
      go_region_law (first
        | (go_simp; go_at_call 11; refine (HNU _ _).mono ?_; rintro r w3 ⟨rfl, hw⟩; subst hw)
        | fail)
      all_goals (go_wp2; go_meet; exact ⟨rfl, (heap_alloc_new wr _ : _ = _), ((Below.refl _ _).alloc (Nat.le_refl _) _).drew⟩)
    case rest =>
    obtain ⟨hu, HV2, HB2⟩ := hcut
    subst hu
    generalize hvb : wr.heap.size = vb at *
    have HT2 : Hid (wc.heap[w.heap.size]? = some (.cells #[.int .i64 err, .bool did, .slice a k c] 68 (0, 0))) := (HB2.out.block _ (by omega)).trans HT1.out
    have HX2 := (HB2.out.block (w.heap.size + 1) (by omega)).trans HX1.out
    have HX2 : Hid (wc.heap[w.heap.size + 1]? = _) := HX2
    have HB3 : Hid (Below w.heap.size w wc) := HB1.out.trans (HB2.out.mono (by omega))
    have hvw : vb < wc.heap.size := (Array.getElem?_eq_some_iff.1 HV2.out).1
    clear HT1 HX1 HB1 HB2 ct0 ct1 rcT HNU hvb
    generalize wc = W2 at *
    go_wp2
    go_loopw [9] (fun vi wl => ∃ j : Nat, vi = .int .i64 j ∧ j ≤ k ∧ ∃ va vc, Hid (wl.heap[vb]? = some (.cells #[.int .i64 err, .bool did, .slice va j vc] 77 (0, 0))) ∧ Hid (ROw (vb + 1) wl (.slice va j vc) (l.take j)) ∧ Hid (Below vb W2 wl)) (fun i _ => k - (intOf i).toNat)
    case atStart => exact ⟨0, rfl, by omega, none, 0, HV2.out, ⟨rfl, .inl ⟨rfl, rfl⟩⟩, Below.refl _ _⟩
    case round =>
      obtain ⟨j, rfl, hj, va, vc, HVB, HRO, HBL⟩ := hrel
      have hsl : vb < wr.heap.size := (Array.getElem?_eq_some_iff.1 HVB.out).1
      have HTL : Hid (wr.heap[w.heap.size]? = some (.cells #[.int .i64 err, .bool did, .slice a k c] 68 (0, 0))) := (HBL.out.block _ (by omega)).trans HT2.out
      have ct2 : wr.cell? ⟨w.heap.size, 2, none⟩ = some (.slice a k c) := by have h0 := HTL.out; simp only [World.cell?, h0]; rfl
      have HBW : Hid (Below w.heap.size w wr) := HB3.out.trans (HBL.out.mono (by omega))
      by_cases hlt : j < k
      · have hjl : j < l.length := by rw [HN.out]; exact hlt
        have HOK : Hid (EvOk (eat l j)) := HEV.out _ (eat_mem hjl)
        have HTK : Hid (l.take (j + 1) = l.take j ++ [eat l j]) := take_eat hjl
        have HLT : Hid ((l.take j).length = j) := by show _ = _; rw [List.length_take]; omega
        rcases HE.out with h0 | ⟨b, off, rfl, hb, hE2⟩
        · rw [h0] at hjl; simp at hjl
        obtain ⟨e0, e1, e2, e3, e4, e5⟩ := (hE2 j hjl).below hb HBW.out
        generalize eat l j = ex at *
        obtain ⟨ekind, enode, eclient, enumber, ecode, eval⟩ := ex
        simp only at e0 e1 e2 e3 e4 e5
        have cv2 : wr.cell? ⟨vb, 2, none⟩ = some (.slice va j vc) := by have h0 := HVB.out; simp only [World.cell?, h0]; rfl
        obtain ⟨rcT, -⟩ := stays (W := wr) (R := w.heap.size) (by omega)
        obtain ⟨rcA, rfA⟩ := stays2 (W := wr) (R := vb) hsl
        obtain ⟨rcB, rfB⟩ := stays3 (W := wr) (R := vb) hsl
        have hjk : j ≤ 200 := by omega
        clear hE2 hjl
        go_upto_region 16 with (at_builtin; refine wpList_app tyR rfl _ _ rfl (vb + 1) (.slice va j vc) j ((l.take j).flatMap fun x => x.cells.toList) ⟨wr.heap.size + 1 + 1, 0, none⟩ 1 1 [.int .i64 ekind, .int .i64 enode, .int .i64 eclient, .int .i64 enumber, .int .i64 ecode, .string ⟨eval.toArray⟩] rfl (World.ownsRow.alloc (World.ownsRow.alloc (World.ownsRow.alloc (by have := HRO.out; unfold ROw at this; rwa [HLT.out] at this) _) _) _) rfl rfl (news_eq _ #[.int .i64 ekind, .int .i64 enode, .int .i64 eclient, .int .i64 enumber, .int .i64 ecode, .string ⟨eval.toArray⟩] (by simp) 78) (ev_one ⟨ekind, enode, eclient, enumber, ecode, eval⟩) (by omega) (by simp; omega) ?_; intro v6 w6 r1 r2 r3; have HB6 : Hid (Below (vb + 1) wr w6) := ((((Below.refl _ wr).alloc (by omega) _).alloc (by simp; omega) _).alloc (by simp; omega) _).grown r2 (by simp; omega) (fun g hg => (World.ownsRow.lt HRO.out g hg).1); obtain ⟨a6, c6, rfl, -, -⟩ := row_shape r1; have hV6 := (HB6.out.block vb (by omega)).trans HVB.out; have c6v : w6.cell? ⟨vb, 2, none⟩ = some (.slice va j vc) := (by simp only [World.cell?, hV6]; rfl); have f6v : w6.frozen? ⟨vb, 2, none⟩ = false := (by simp [World.frozen?, hV6]); have hne := fun g hg => (World.ownsRow.lt HRO.out g hg).2; obtain ⟨tb1, tb2⟩ := two_boxes wr (.cells #[.int .i64 ekind, .int .i64 enode, .int .i64 eclient, .int .i64 enumber, .int .i64 ecode, .string ⟨eval.toArray⟩] 74) (.cells #[.int .i64 ekind, .int .i64 enode, .int .i64 eclient, .int .i64 enumber, .int .i64 ecode, .string ⟨eval.toArray⟩] 78) (.cells #[.int .i64 ekind, .int .i64 enode, .int .i64 eclient, .int .i64 enumber, .int .i64 ecode, .string ⟨eval.toArray⟩] 78); have HA6 := (grown_block r2 (b := wr.heap.size) (by simp; omega) (fun e => by have := hne _ e.symm; omega)).trans tb1; have HA7 := (grown_block r2 (b := wr.heap.size + 1) (by simp) (fun e => by have := hne _ e.symm; omega)).trans tb2; have HA6 : Hid (w6.heap[wr.heap.size]? = _) := HA6; have HA7 : Hid (w6.heap[wr.heap.size + 1]? = _) := HA7; have HR6 : Hid (ROw (vb + 1) w6 (.slice a6 (j + 1) c6) (l.take j ++ [⟨ekind, enode, eclient, enumber, ecode, eval⟩])) := ROw.snoc (by rw [HLT.out]; exact r1); have HV6 : Hid (w6.heap[vb]? = _) := hV6; clear hV6 r1 r2 r3 tb1 tb2 hne)
        clear c6v f6v cv2 ct2 rcT rcA rfA rcB rfB e0 e1 e2 e3 e4 e5
        generalize hW7 : World.setCell w6 _ _ = W7
        have hz6 : wr.heap.size + 1 < w6.heap.size := (Array.getElem?_eq_some_iff.1 HA7.out).1
        have hz7 : W7.heap.size = w6.heap.size := by rw [← hW7]; exact size_set _ _ _
        have HEC : Hid (EC wr.heap.size #[.int .i64 ekind, .int .i64 enode, .int .i64 eclient, .int .i64 enumber, .int .i64 ecode, .string ⟨eval.toArray⟩] W7 W7.drew) := ⟨by rw [← hW7]; exact (Below.heap_setCell _ _ _ _ (by show wr.heap.size ≠ vb; omega)).trans HA6.out, by rw [← hW7]; exact (Below.heap_setCell _ _ _ _ (by show wr.heap.size + 1 ≠ vb; omega)).trans HA7.out, (Below.refl _ _).drew⟩
        have HV7 : Hid (W7.heap[vb]? = some (.cells #[.int .i64 err, .bool did, .slice a6 (j + 1) c6] 77 (0, 0))) := by show _ = _; rw [← hW7]; exact heap_set HV6.out 2 _
        have HR7 : Hid (ROw (vb + 1) W7 (.slice a6 (j + 1) c6) (l.take j ++ [⟨ekind, enode, eclient, enumber, ecode, eval⟩])) := by
          show ROw _ _ _ _
          rw [← hW7]
          exact ownsRow_setCell_other (a := ⟨vb, 2, none⟩) HR6.out (fun e => by have : vb + 1 ≤ vb := (World.ownsRow.lt HR6.out _ e).1; omega) _
        have HL7 : Hid (Below vb W2 W7) := by
          show Below _ _ _
          rw [← hW7]
          exact (HBL.out.trans (HB6.out.mono (by omega))).setCell (by show vb ≤ vb; omega) _
        have HB7 : Hid (Below w.heap.size w W7) := HB3.out.trans (HL7.out.mono (by omega))
        have HQ25 : Hid (∀ W, Below w.heap.size w W → Calls Tryz.prog 25 #[.agg #[.int .i64 ekind, .int .i64 enode, .int .i64 eclient, .int .i64 enumber, .int .i64 ecode, .string ⟨eval.toArray⟩]] W fun r w' => r = .returned (.string ⟨(evL ⟨ekind, enode, eclient, enumber, ecode, eval⟩).toArray⟩) ∧ Below W.heap.size W w') := fun W h => ev_any _ HOK.out W (HV.out _ h)
        have HQ26 : Hid (∀ W, Below w.heap.size w W → Calls Tryz.prog 26 #[.agg #[.int .i64 ekind, .int .i64 enode, .int .i64 eclient, .int .i64 enumber, .int .i64 ecode, .string ⟨eval.toArray⟩]] W fun r w' => r = .returned (.string ⟨(evL ⟨ekind, enode, eclient, enumber, ecode, eval⟩).toArray⟩) ∧ Below W.heap.size W w') := fun W h => rev_any _ HOK.out W (HV.out _ h)
        have HQ27 : Hid (∀ W, Calls Tryz.prog 27 #[.agg #[.int .i64 ecode, .string ⟨eval.toArray⟩]] W fun r w' => r = .returned (.string ⟨(repL ecode eval).toArray⟩) ∧ Below W.heap.size W w') := fun W => reply_any ecode eval HOK.out.val W
        have HQ28 : Hid (∀ W, Calls Tryz.prog 28 #[.agg #[.int .i64 ecode, .string ⟨eval.toArray⟩]] W fun r w' => r = .returned (.string ⟨(repL ecode eval).toArray⟩) ∧ Below W.heap.size W w') := fun W => rreply_any ecode eval HOK.out.val W
        generalize evL ⟨ekind, enode, eclient, enumber, ecode, eval⟩ = ln at *
        generalize repL ecode eval = rp at *
        clear hW7 HA6 HA7 HV6 HR6 HB6 HOK
        refine wp_region_held_drew (S := EC wr.heap.size #[.int .i64 ekind, .int .i64 enode, .int .i64 eclient, .int .i64 enumber, .int .i64 ecode, .string ⟨eval.toArray⟩] W7) (by kernel_rfl) HEC.out (fun hHeld => ?_)
        clear HEC
        refine wpAnyH_take (i := 0) (oi := { dst := some 112, op := Op.load 74 (Operand.tmp 10), type := 74, pos := "law.go:81", after := #[], guard := none }) (v := .agg #[.int .i64 ekind, .int .i64 enode, .int .i64 eclient, .int .i64 enumber, .int .i64 ecode, .string ⟨eval.toArray⟩]) rfl (by kernel_rfl) (by kernel_rfl) (by kernel_rfl) (fun _ _ _ h => h) (Or.inl ⟨by rfl, ?h0_1⟩) hHeld ?_
        case h0_1 => intro wv hSw; (try dsimp only at hSw); exact load_midF rfl (by kernel_rfl) (run_loadVar_mid (P := Tryz.prog) _ (wr.heap.size) 0 74 [.int .i64 ekind, .int .i64 enode, .int .i64 eclient, .int .i64 enumber, .int .i64 ecode, .string ⟨eval.toArray⟩] _ (range_ofF hSw.x rfl) Tryz.underlying74 rfl (by kernel_rfl))
        try simp only [Act.put, List.setIfInBounds_toArray, List.set_cons_zero, List.set_cons_succ]
        refine wpAnyH_take (i := 2) (oi := { dst := some 114, op := Op.load 78 (Operand.tmp 11), type := 78, pos := "law.go:81", after := #[], guard := none }) (v := .agg #[.int .i64 ekind, .int .i64 enode, .int .i64 eclient, .int .i64 enumber, .int .i64 ecode, .string ⟨eval.toArray⟩]) rfl (by kernel_rfl) (by kernel_rfl) (by kernel_rfl) (fun _ _ _ h => h) (Or.inl ⟨by rfl, ?h2_2⟩) hHeld ?_
        case h2_2 => intro wv hSw; (try dsimp only at hSw); exact load_midF rfl (by kernel_rfl) (run_loadVar_mid (P := Tryz.prog) _ (wr.heap.size + 1) 0 78 [.int .i64 ekind, .int .i64 enode, .int .i64 eclient, .int .i64 enumber, .int .i64 ecode, .string ⟨eval.toArray⟩] _ (range_ofF hSw.y rfl) Tryz.underlying78 rfl (by kernel_rfl))
        try simp only [Act.put, List.setIfInBounds_toArray, List.set_cons_zero, List.set_cons_succ]
        refine wpAnyH_ready (rs := [1]) (by kernel_rfl) (by simp) ?_
        refine AllReadyH.cons (o := { dst := some 113, op := Op.call { callee := Callee.value (Operand.func 25), args := #[Operand.tmp 112], argTypes := #[74] }, type := 9, pos := "law.go:81", after := #[{ on := 0, ground := Ground.data }], guard := none }) rfl (fun KK hK => ?_) ?_
        · go_simp
          go_wp2_with (go_at_call 25; refine (HQ25.out _ (HB7.out.trans (hHeld.bel.mono HB7.out.size))).mono ?_; rintro r z14 ⟨rfl, hB14⟩)
          have hT14 := hHeld.below hB14
          clear hHeld hB14
          refine hK.out _ _ hT14 (fun hHeld => ?_)
          clear hK hT14
          refine wpAnyH_ready (rs := [3]) (by kernel_rfl) (by simp) ?_
          refine AllReadyH.cons (o := { dst := some 115, op := Op.call { callee := Callee.value (Operand.func 26), args := #[Operand.tmp 114], argTypes := #[78] }, type := 9, pos := "law.go:81", after := #[{ on := 2, ground := Ground.data }, { on := 1, ground := Ground.chain }], guard := none }) rfl (fun KK hK => ?_) ?_
          · go_simp
            go_wp2_with (go_at_call 26; refine (HQ26.out _ (HB7.out.trans (hHeld.bel.mono HB7.out.size))).mono ?_; rintro r z13 ⟨rfl, hB13⟩)
            have hT13 := hHeld.below hB13
            clear hHeld hB13
            refine hK.out _ _ hT13 (fun hHeld => ?_)
            clear hK hT13
            refine wpAnyH_take (i := 4) (oi := { dst := some 116, op := Op.binOp BinOp.neq 9 (Operand.tmp 113) (Operand.tmp 115) 9, type := 4, pos := "law.go:81", after := #[{ on := 1, ground := Ground.data }, { on := 3, ground := Ground.data }], guard := none }) (v := .bool false) rfl (by kernel_rfl) (by kernel_rfl) (by kernel_rfl) (fun _ _ _ h => h) (Or.inl ⟨by rfl, ?h4_7⟩) hHeld ?_
            case h4_7 => intro wv hSw; (try dsimp only at hSw); go_simp; try with_reducible rfl
            try simp only [Act.put, List.setIfInBounds_toArray, List.set_cons_zero, List.set_cons_succ]
            refine wpAnyH_take (i := 5) (oi := { dst := some 117, op := Op.move (Operand.tmp 116), type := 4, pos := "law.go:81", after := #[{ on := 4, ground := Ground.data }, { on := 3, ground := Ground.chain }], guard := none }) (v := .bool false) rfl (by kernel_rfl) (by kernel_rfl) (by kernel_rfl) (fun _ _ _ h => h) (Or.inl ⟨by rfl, ?h5_8⟩) hHeld ?_
            case h5_8 => intro wv hSw; (try dsimp only at hSw); kernel_rfl
            try simp only [Act.put, List.setIfInBounds_toArray, List.set_cons_zero, List.set_cons_succ]
            refine wpAnyH_take (i := 6) (oi := { dst := some 118, op := Op.fieldAddr 74 (Operand.tmp 10) 4, type := 0, pos := "law.go:81", after := #[{ on := 5, ground := Ground.guard }], guard := some (5, false) }) (v := .pointer (some ⟨wr.heap.size, 4, none⟩)) rfl (by kernel_rfl) (by kernel_rfl) (by kernel_rfl) (fun _ _ _ h => h) (Or.inl ⟨by rfl, ?h6_9⟩) hHeld ?_
            case h6_9 => intro wv hSw; (try dsimp only at hSw); kernel_rfl
            try simp only [Act.put, List.setIfInBounds_toArray, List.set_cons_zero, List.set_cons_succ]
            refine wpAnyH_take (i := 7) (oi := { dst := some 119, op := Op.load 70 (Operand.tmp 118), type := 70, pos := "law.go:81", after := #[{ on := 6, ground := Ground.data }, { on := 5, ground := Ground.guard }], guard := some (5, false) }) (v := .agg #[.int .i64 ecode, .string ⟨eval.toArray⟩]) rfl (by kernel_rfl) (by kernel_rfl) (by kernel_rfl) (fun _ _ _ h => h) (Or.inl ⟨by rfl, ?h7_10⟩) hHeld ?_
            case h7_10 => intro wv hSw; (try dsimp only at hSw); exact load_midF rfl (by kernel_rfl) (run_loadVar_mid (P := Tryz.prog) _ (wr.heap.size) 4 70 [.int .i64 ecode, .string ⟨eval.toArray⟩] _ (range_ofF hSw.x rfl) Tryz.underlying70 rfl (by kernel_rfl))
            try simp only [Act.put, List.setIfInBounds_toArray, List.set_cons_zero, List.set_cons_succ]
            refine wpAnyH_take (i := 9) (oi := { dst := some 121, op := Op.fieldAddr 74 (Operand.tmp 10) 4, type := 0, pos := "law.go:81", after := #[{ on := 5, ground := Ground.guard }], guard := some (5, false) }) (v := .pointer (some ⟨wr.heap.size, 4, none⟩)) rfl (by kernel_rfl) (by kernel_rfl) (by kernel_rfl) (fun _ _ _ h => h) (Or.inl ⟨by rfl, ?h9_11⟩) hHeld ?_
            case h9_11 => intro wv hSw; (try dsimp only at hSw); kernel_rfl
            try simp only [Act.put, List.setIfInBounds_toArray, List.set_cons_zero, List.set_cons_succ]
            refine wpAnyH_take (i := 10) (oi := { dst := some 122, op := Op.load 70 (Operand.tmp 121), type := 70, pos := "law.go:81", after := #[{ on := 9, ground := Ground.data }, { on := 5, ground := Ground.guard }], guard := some (5, false) }) (v := .agg #[.int .i64 ecode, .string ⟨eval.toArray⟩]) rfl (by kernel_rfl) (by kernel_rfl) (by kernel_rfl) (fun _ _ _ h => h) (Or.inl ⟨by rfl, ?h10_12⟩) hHeld ?_
            case h10_12 => intro wv hSw; (try dsimp only at hSw); exact load_midF rfl (by kernel_rfl) (run_loadVar_mid (P := Tryz.prog) _ (wr.heap.size) 4 70 [.int .i64 ecode, .string ⟨eval.toArray⟩] _ (range_ofF hSw.x rfl) Tryz.underlying70 rfl (by kernel_rfl))
            try simp only [Act.put, List.setIfInBounds_toArray, List.set_cons_zero, List.set_cons_succ]
            refine wpAnyH_ready (rs := [8]) (by kernel_rfl) (by simp) ?_
            refine AllReadyH.cons (o := { dst := some 120, op := Op.call { callee := Callee.value (Operand.func 27), args := #[Operand.tmp 119], argTypes := #[70] }, type := 9, pos := "law.go:81", after := #[{ on := 7, ground := Ground.data }, { on := 5, ground := Ground.chain }, { on := 5, ground := Ground.guard }], guard := some (5, false) }) rfl (fun KK hK => ?_) ?_
            · go_simp
              go_wp2_with (go_at_call 27; refine (HQ27.out _).mono ?_; rintro r z6 ⟨rfl, hB6⟩)
              have hT6 := hHeld.below hB6
              clear hHeld hB6
              refine hK.out _ _ hT6 (fun hHeld => ?_)
              clear hK hT6
              refine wpAnyH_ready (rs := [11]) (by kernel_rfl) (by simp) ?_
              refine AllReadyH.cons (o := { dst := some 123, op := Op.call { callee := Callee.value (Operand.func 28), args := #[Operand.tmp 122], argTypes := #[70] }, type := 9, pos := "law.go:81", after := #[{ on := 10, ground := Ground.data }, { on := 8, ground := Ground.chain }, { on := 5, ground := Ground.guard }], guard := some (5, false) }) rfl (fun KK hK => ?_) ?_
              · go_simp
                go_wp2_with (go_at_call 28; refine (HQ28.out _).mono ?_; rintro r z5 ⟨rfl, hB5⟩)
                have hT5 := hHeld.below hB5
                clear hHeld hB5
                refine hK.out _ _ hT5 (fun hHeld => ?_)
                clear hK hT5
                refine wpAnyH_take (i := 12) (oi := { dst := some 124, op := Op.binOp BinOp.neq 9 (Operand.tmp 120) (Operand.tmp 123) 9, type := 4, pos := "law.go:81", after := #[{ on := 8, ground := Ground.data }, { on := 11, ground := Ground.data }, { on := 5, ground := Ground.guard }], guard := some (5, false) }) (v := .bool false) rfl (by kernel_rfl) (by kernel_rfl) (by kernel_rfl) (fun _ _ _ h => h) (Or.inl ⟨by rfl, ?h12_3⟩) hHeld ?_
                case h12_3 => intro wv hSw; (try dsimp only at hSw); go_simp; try with_reducible rfl
                try simp only [Act.put, List.setIfInBounds_toArray, List.set_cons_zero, List.set_cons_succ]
                refine wpAnyH_take (i := 13) (oi := { dst := some 125, op := Op.pick (Operand.tmp 117) (Operand.const (Value.bool true)) (Operand.tmp 124), type := 4, pos := "law.go:81", after := #[{ on := 5, ground := Ground.data }, { on := 12, ground := Ground.data }], guard := none }) (v := .bool false) rfl (by kernel_rfl) (by kernel_rfl) (by kernel_rfl) (fun _ _ _ h => h) (Or.inl ⟨by rfl, ?h13_4⟩) hHeld ?_
                case h13_4 => intro wv hSw; (try dsimp only at hSw); kernel_rfl
                try simp only [Act.put, List.setIfInBounds_toArray, List.set_cons_zero, List.set_cons_succ]
                refine wpAnyH_done (by kernel_rfl) ?_ _
                have HH := hHeld
                clear hHeld
                go_wp2
                refine ⟨⟨j + 1, by simp, by omega, a6, c6, (HH.bel.block vb (by omega)).trans HV7.out, ?_, HL7.out.trans (HH.bel.mono (by omega))⟩, by simp [intOf]; omega⟩
                show ROw _ _ _ _
                rw [HTK.out]
                exact row_below HR7.out HH.bel
              exact AllReadyH.nil
            exact AllReadyH.nil
          exact AllReadyH.nil
        exact AllReadyH.nil
      · have hjk : j = k := by omega
        subst hjk
        have hall : l.take j = l := List.take_of_length_le (by rw [HN.out]; omega)
        rw [hall] at HRO
        have hlen : l.length ≤ 1000000 := by rw [HN.out]; omega
        have HT29 : Hid (∀ W, Below w.heap.size w W → Calls Tryz.prog 29 #[.agg #[.int .i64 err, .bool did, .slice a j c]] W fun r w' => ∃ v, r = .returned v ∧ SOw W.heap.size w' v (verL err did :: l.map evL) ∧ Below W.heap.size W w') := fun W h => by
          have := told_any err did a c l HIE.out hlen HEV.out W (HV.out _ h) ((HE.out.below h).up h.size)
          rwa [HN.out] at this
        have HT30 : Hid (∀ W, Below wr.heap.size wr W → Calls Tryz.prog 30 #[.agg #[.int .i64 err, .bool did, .slice va j vc]] W fun r w' => ∃ v, r = .returned v ∧ SOw W.heap.size w' v (verL err did :: l.map evL) ∧ Below W.heap.size W w') := fun W h => by
          have hro : ROw (vb + 1) wr (.slice va l.length vc) l := by rw [HN.out]; exact HRO.out
          have := rtold_any err did va vc l HIE.out hlen HEV.out W (HV.out _ (HBW.out.trans (h.mono HBW.out.size))) (((hro.evs (Nat.le_refl _)).below h).up h.size)
          rwa [HN.out] at this
        have HST : Hid (∀ W v u, SRd W v (verL err did :: l.map evL) → SRd W u (verL err did :: l.map evL) → Calls Tryz.prog 10 #[v, u] W fun e w' => e = .returned (.bool true) ∧ Below W.heap.size W w') := fun W v u h1 h2 => by
          have hle : (verL err did :: l.map evL).length ≤ 9223372036854775807 := by simp only [List.length_cons, List.length_map]; omega
          have := sameTexts_any W v u _ _ h1 h2 hle hle
          simpa using this
        have ct0 : wr.cell? ⟨w.heap.size, 0, none⟩ = some (.int .i64 err) := by have h0 := HTL.out; simp only [World.cell?, h0]; rfl
        have ct1 : wr.cell? ⟨w.heap.size, 1, none⟩ = some (.bool did) := by have h0 := HTL.out; simp only [World.cell?, h0]; rfl
        have HPX : Hid (wr.heap[w.heap.size + 1]? = some (.cells #[.int .i64 client, .int .i64 seq, .int .i64 kind, .string ⟨key.toArray⟩, .string ⟨value.toArray⟩, .string ⟨old.toArray⟩, .int .i64 call, .int .i64 back, .int .i64 code, .string ⟨val.toArray⟩] 72 (0, 0))) := (HBL.out.block _ (by omega)).trans HX2.out
        have HP31 : Hid (∀ W, Below w.heap.size w W → Calls Tryz.prog 31 #[.agg #[.int .i64 client, .int .i64 seq, .int .i64 kind, .string ⟨key.toArray⟩, .string ⟨value.toArray⟩, .string ⟨old.toArray⟩, .int .i64 call, .int .i64 back, .int .i64 code, .string ⟨val.toArray⟩]] W fun r w' => r = .returned (.string ⟨(opL ⟨client, seq, kind, key, value, old, call, back, code, val⟩).toArray⟩) ∧ Below W.heap.size W w') := fun W h => formatOp_any _ HXO.out W (HV.out _ h)
        have HP32 : Hid (∀ W, Below w.heap.size w W → Calls Tryz.prog 32 #[.agg #[.int .i64 client, .int .i64 seq, .int .i64 kind, .string ⟨key.toArray⟩, .string ⟨value.toArray⟩, .string ⟨old.toArray⟩, .int .i64 call, .int .i64 back, .int .i64 code, .string ⟨val.toArray⟩]] W fun r w' => r = .returned (.string ⟨(opL ⟨client, seq, kind, key, value, old, call, back, code, val⟩).toArray⟩) ∧ Below W.heap.size W w') := fun W h => rformatOp_any _ HXO.out W (HV.out _ h)
        have HP27 : Hid (∀ W, Calls Tryz.prog 27 #[.agg #[.int .i64 code, .string ⟨val.toArray⟩]] W fun r w' => r = .returned (.string ⟨(repL code val).toArray⟩) ∧ Below W.heap.size W w') := fun W => reply_any code val HXO.out.val W
        have HP28 : Hid (∀ W, Calls Tryz.prog 28 #[.agg #[.int .i64 code, .string ⟨val.toArray⟩]] W fun r w' => r = .returned (.string ⟨(repL code val).toArray⟩) ∧ Below W.heap.size W w') := fun W => rreply_any code val HXO.out.val W
        generalize opL ⟨client, seq, kind, key, value, old, call, back, code, val⟩ = ol at *
        generalize repL code val = rp at *
        generalize verL err did :: l.map evL = tl at *
        have hwr : w.heap.size + 2 ≤ wr.heap.size := by have := HBL.out.size; omega
        clear hall hlen HRO
        go_upto_region 21 with (first
          | (go_at_call 29; refine (HT29.out _ HBW.out).mono ?_; rintro r w8 ⟨v8, rfl, hS8, hB8⟩; have hV8 : w8.heap[vb]? = some (.cells #[.int .i64 err, .bool did, .slice va j vc] 77 (0, 0)) := (hB8.block _ (by omega)).trans HVB.out; have cv0 : w8.cell? ⟨vb, 0, none⟩ = some (.int .i64 err) := (by simp only [World.cell?, hV8]; rfl); have cv1 : w8.cell? ⟨vb, 1, none⟩ = some (.bool did) := (by simp only [World.cell?, hV8]; rfl); have cv2 : w8.cell? ⟨vb, 2, none⟩ = some (.slice va j vc) := (by simp only [World.cell?, hV8]; rfl); have HS8 : Hid (SOw wr.heap.size w8 v8 tl) := hS8; have HB8 : Hid (Below wr.heap.size wr w8) := hB8; clear hS8 hV8 hB8)
          | (go_at_call 30; refine (HT30.out _ HB8.out).mono ?_; rintro r w9 ⟨v9, rfl, hS9, hB9⟩; have HS9 : Hid (SOw w8.heap.size w9 v9 tl) := hS9; have HS8' : Hid (SOw wr.heap.size w9 v8 tl) := HS8.out.below hB9; have HB9 : Hid (Below wr.heap.size wr w9) := HB8.out.trans (hB9.mono HB8.out.size); clear hS9 hB9)
          | (go_at_call 10; refine (HST.out _ _ _ HS8'.out.rd HS9.out.rd).mono ?_; rintro r W9 ⟨rfl, hB10⟩; have HPS : Hid (PS (w.heap.size + 1) #[.int .i64 client, .int .i64 seq, .int .i64 kind, .string ⟨key.toArray⟩, .string ⟨value.toArray⟩, .string ⟨old.toArray⟩, .int .i64 call, .int .i64 back, .int .i64 code, .string ⟨val.toArray⟩] W9 W9.drew) := ⟨(hB10.block _ (by have := HB9.out.size; omega)).trans ((HB9.out.block _ (by omega)).trans HPX.out), (Below.refl _ _).drew⟩; have HB9 : Hid (Below w.heap.size w W9) := HBW.out.trans ((HB9.out.trans (hB10.mono HB9.out.size)).mono HBW.out.size); clear hB10))
        refine wp_region_held_drew (S := PS (w.heap.size + 1) #[.int .i64 client, .int .i64 seq, .int .i64 kind, .string ⟨key.toArray⟩, .string ⟨value.toArray⟩, .string ⟨old.toArray⟩, .int .i64 call, .int .i64 back, .int .i64 code, .string ⟨val.toArray⟩] W9) (by kernel_rfl) HPS.out (fun hHeld => ?_)
        clear HPS
        refine wpAnyH_take (i := 0) (oi := { dst := some 133, op := Op.move (Operand.tmp 14), type := 4, pos := "law.go:88", after := #[], guard := none }) (v := .bool true) rfl (by kernel_rfl) (by kernel_rfl) (by kernel_rfl) (fun _ _ _ h => h) (Or.inl ⟨by rfl, ?h0_28⟩) hHeld ?_
        case h0_28 => intro wv hSw; (try dsimp only at hSw); kernel_rfl
        try simp only [Act.put, List.setIfInBounds_toArray, List.set_cons_zero, List.set_cons_succ]
        refine wpAnyH_take (i := 1) (oi := { dst := some 134, op := Op.move (Operand.tmp 133), type := 4, pos := "law.go:88", after := #[{ on := 0, ground := Ground.data }], guard := none }) (v := .bool true) rfl (by kernel_rfl) (by kernel_rfl) (by kernel_rfl) (fun _ _ _ h => h) (Or.inl ⟨by rfl, ?h1_29⟩) hHeld ?_
        case h1_29 => intro wv hSw; (try dsimp only at hSw); kernel_rfl
        try simp only [Act.put, List.setIfInBounds_toArray, List.set_cons_zero, List.set_cons_succ]
        refine wpAnyH_take (i := 2) (oi := { dst := some 135, op := Op.load 72 (Operand.tmp 3), type := 72, pos := "law.go:88", after := #[{ on := 1, ground := Ground.guard }], guard := some (1, true) }) (v := .agg #[.int .i64 client, .int .i64 seq, .int .i64 kind, .string ⟨key.toArray⟩, .string ⟨value.toArray⟩, .string ⟨old.toArray⟩, .int .i64 call, .int .i64 back, .int .i64 code, .string ⟨val.toArray⟩]) rfl (by kernel_rfl) (by kernel_rfl) (by kernel_rfl) (fun _ _ _ h => h) (Or.inl ⟨by rfl, ?h2_30⟩) hHeld ?_
        case h2_30 => intro wv hSw; (try dsimp only at hSw); exact load_midF rfl (by kernel_rfl) (run_loadVar_mid (P := Tryz.prog) _ (w.heap.size + 1) 0 72 [.int .i64 client, .int .i64 seq, .int .i64 kind, .string ⟨key.toArray⟩, .string ⟨value.toArray⟩, .string ⟨old.toArray⟩, .int .i64 call, .int .i64 back, .int .i64 code, .string ⟨val.toArray⟩] _ (range_ofF hSw.x rfl) Tryz.underlying72 rfl (by kernel_rfl))
        try simp only [Act.put, List.setIfInBounds_toArray, List.set_cons_zero, List.set_cons_succ]
        refine wpAnyH_take (i := 4) (oi := { dst := some 137, op := Op.load 72 (Operand.tmp 3), type := 72, pos := "law.go:88", after := #[{ on := 1, ground := Ground.guard }], guard := some (1, true) }) (v := .agg #[.int .i64 client, .int .i64 seq, .int .i64 kind, .string ⟨key.toArray⟩, .string ⟨value.toArray⟩, .string ⟨old.toArray⟩, .int .i64 call, .int .i64 back, .int .i64 code, .string ⟨val.toArray⟩]) rfl (by kernel_rfl) (by kernel_rfl) (by kernel_rfl) (fun _ _ _ h => h) (Or.inl ⟨by rfl, ?h4_31⟩) hHeld ?_
        case h4_31 => intro wv hSw; (try dsimp only at hSw); exact load_midF rfl (by kernel_rfl) (run_loadVar_mid (P := Tryz.prog) _ (w.heap.size + 1) 0 72 [.int .i64 client, .int .i64 seq, .int .i64 kind, .string ⟨key.toArray⟩, .string ⟨value.toArray⟩, .string ⟨old.toArray⟩, .int .i64 call, .int .i64 back, .int .i64 code, .string ⟨val.toArray⟩] _ (range_ofF hSw.x rfl) Tryz.underlying72 rfl (by kernel_rfl))
        try simp only [Act.put, List.setIfInBounds_toArray, List.set_cons_zero, List.set_cons_succ]
        refine wpAnyH_ready (rs := [3]) (by kernel_rfl) (by simp) ?_
        refine AllReadyH.cons (o := { dst := some 136, op := Op.call { callee := Callee.value (Operand.func 31), args := #[Operand.tmp 135], argTypes := #[72] }, type := 9, pos := "law.go:88", after := #[{ on := 2, ground := Ground.data }, { on := 1, ground := Ground.chain }, { on := 1, ground := Ground.guard }], guard := some (1, true) }) rfl (fun KK hK => ?_) ?_
        · go_simp
          go_wp2_with (go_at_call 31; refine (HP31.out _ (HB9.out.trans (hHeld.bel.mono HB9.out.size))).mono ?_; rintro r z32 ⟨rfl, hB32⟩)
          have hT32 := hHeld.below hB32
          clear hHeld hB32
          refine hK.out _ _ hT32 (fun hHeld => ?_)
          clear hK hT32
          refine wpAnyH_ready (rs := [5]) (by kernel_rfl) (by simp) ?_
          refine AllReadyH.cons (o := { dst := some 138, op := Op.call { callee := Callee.value (Operand.func 32), args := #[Operand.tmp 137], argTypes := #[72] }, type := 9, pos := "law.go:88", after := #[{ on := 4, ground := Ground.data }, { on := 3, ground := Ground.chain }, { on := 1, ground := Ground.guard }], guard := some (1, true) }) rfl (fun KK hK => ?_) ?_
          · go_simp
            go_wp2_with (go_at_call 32; refine (HP32.out _ (HB9.out.trans (hHeld.bel.mono HB9.out.size))).mono ?_; rintro r z27 ⟨rfl, hB27⟩)
            have hT27 := hHeld.below hB27
            clear hHeld hB27
            refine hK.out _ _ hT27 (fun hHeld => ?_)
            clear hK hT27
            refine wpAnyH_take (i := 6) (oi := { dst := some 139, op := Op.binOp BinOp.eql 9 (Operand.tmp 136) (Operand.tmp 138) 9, type := 4, pos := "law.go:88", after := #[{ on := 3, ground := Ground.data }, { on := 5, ground := Ground.data }, { on := 1, ground := Ground.guard }], guard := some (1, true) }) (v := .bool true) rfl (by kernel_rfl) (by kernel_rfl) (by kernel_rfl) (fun _ _ _ h => h) (Or.inl ⟨by rfl, ?h6_20⟩) hHeld ?_
            case h6_20 => intro wv hSw; (try dsimp only at hSw); go_simp; try with_reducible rfl
            try simp only [Act.put, List.setIfInBounds_toArray, List.set_cons_zero, List.set_cons_succ]
            refine wpAnyH_take (i := 7) (oi := { dst := some 140, op := Op.pick (Operand.tmp 134) (Operand.tmp 139) (Operand.const (Value.bool false)), type := 4, pos := "law.go:88", after := #[{ on := 1, ground := Ground.data }, { on := 6, ground := Ground.data }], guard := none }) (v := .bool true) rfl (by kernel_rfl) (by kernel_rfl) (by kernel_rfl) (fun _ _ _ h => h) (Or.inl ⟨by rfl, ?h7_21⟩) hHeld ?_
            case h7_21 => intro wv hSw; (try dsimp only at hSw); kernel_rfl
            try simp only [Act.put, List.setIfInBounds_toArray, List.set_cons_zero, List.set_cons_succ]
            refine wpAnyH_take (i := 8) (oi := { dst := some 141, op := Op.move (Operand.tmp 140), type := 4, pos := "law.go:88", after := #[{ on := 7, ground := Ground.data }, { on := 5, ground := Ground.chain }], guard := none }) (v := .bool true) rfl (by kernel_rfl) (by kernel_rfl) (by kernel_rfl) (fun _ _ _ h => h) (Or.inl ⟨by rfl, ?h8_22⟩) hHeld ?_
            case h8_22 => intro wv hSw; (try dsimp only at hSw); kernel_rfl
            try simp only [Act.put, List.setIfInBounds_toArray, List.set_cons_zero, List.set_cons_succ]
            refine wpAnyH_take (i := 9) (oi := { dst := some 142, op := Op.fieldAddr 72 (Operand.tmp 3) 8, type := 0, pos := "law.go:88", after := #[{ on := 8, ground := Ground.guard }], guard := some (8, true) }) (v := .pointer (some ⟨w.heap.size + 1, 8, none⟩)) rfl (by kernel_rfl) (by kernel_rfl) (by kernel_rfl) (fun _ _ _ h => h) (Or.inl ⟨by rfl, ?h9_23⟩) hHeld ?_
            case h9_23 => intro wv hSw; (try dsimp only at hSw); kernel_rfl
            try simp only [Act.put, List.setIfInBounds_toArray, List.set_cons_zero, List.set_cons_succ]
            refine wpAnyH_take (i := 10) (oi := { dst := some 143, op := Op.load 70 (Operand.tmp 142), type := 70, pos := "law.go:88", after := #[{ on := 9, ground := Ground.data }, { on := 8, ground := Ground.guard }], guard := some (8, true) }) (v := .agg #[.int .i64 code, .string ⟨val.toArray⟩]) rfl (by kernel_rfl) (by kernel_rfl) (by kernel_rfl) (fun _ _ _ h => h) (Or.inl ⟨by rfl, ?h10_24⟩) hHeld ?_
            case h10_24 => intro wv hSw; (try dsimp only at hSw); exact load_midF rfl (by kernel_rfl) (run_loadVar_mid (P := Tryz.prog) _ (w.heap.size + 1) 8 70 [.int .i64 code, .string ⟨val.toArray⟩] _ (range_ofF hSw.x rfl) Tryz.underlying70 rfl (by kernel_rfl))
            try simp only [Act.put, List.setIfInBounds_toArray, List.set_cons_zero, List.set_cons_succ]
            refine wpAnyH_take (i := 12) (oi := { dst := some 145, op := Op.fieldAddr 72 (Operand.tmp 3) 8, type := 0, pos := "law.go:88", after := #[{ on := 8, ground := Ground.guard }], guard := some (8, true) }) (v := .pointer (some ⟨w.heap.size + 1, 8, none⟩)) rfl (by kernel_rfl) (by kernel_rfl) (by kernel_rfl) (fun _ _ _ h => h) (Or.inl ⟨by rfl, ?h12_25⟩) hHeld ?_
            case h12_25 => intro wv hSw; (try dsimp only at hSw); kernel_rfl
            try simp only [Act.put, List.setIfInBounds_toArray, List.set_cons_zero, List.set_cons_succ]
            refine wpAnyH_take (i := 13) (oi := { dst := some 146, op := Op.load 70 (Operand.tmp 145), type := 70, pos := "law.go:88", after := #[{ on := 12, ground := Ground.data }, { on := 8, ground := Ground.guard }], guard := some (8, true) }) (v := .agg #[.int .i64 code, .string ⟨val.toArray⟩]) rfl (by kernel_rfl) (by kernel_rfl) (by kernel_rfl) (fun _ _ _ h => h) (Or.inl ⟨by rfl, ?h13_26⟩) hHeld ?_
            case h13_26 => intro wv hSw; (try dsimp only at hSw); exact load_midF rfl (by kernel_rfl) (run_loadVar_mid (P := Tryz.prog) _ (w.heap.size + 1) 8 70 [.int .i64 code, .string ⟨val.toArray⟩] _ (range_ofF hSw.x rfl) Tryz.underlying70 rfl (by kernel_rfl))
            try simp only [Act.put, List.setIfInBounds_toArray, List.set_cons_zero, List.set_cons_succ]
            refine wpAnyH_ready (rs := [11]) (by kernel_rfl) (by simp) ?_
            refine AllReadyH.cons (o := { dst := some 144, op := Op.call { callee := Callee.value (Operand.func 27), args := #[Operand.tmp 143], argTypes := #[70] }, type := 9, pos := "law.go:88", after := #[{ on := 10, ground := Ground.data }, { on := 8, ground := Ground.chain }, { on := 8, ground := Ground.guard }], guard := some (8, true) }) rfl (fun KK hK => ?_) ?_
            · go_simp
              go_wp2_with (go_at_call 27; refine (HP27.out _).mono ?_; rintro r z19 ⟨rfl, hB19⟩)
              have hT19 := hHeld.below hB19
              clear hHeld hB19
              refine hK.out _ _ hT19 (fun hHeld => ?_)
              clear hK hT19
              refine wpAnyH_ready (rs := [14]) (by kernel_rfl) (by simp) ?_
              refine AllReadyH.cons (o := { dst := some 147, op := Op.call { callee := Callee.value (Operand.func 28), args := #[Operand.tmp 146], argTypes := #[70] }, type := 9, pos := "law.go:88", after := #[{ on := 13, ground := Ground.data }, { on := 11, ground := Ground.chain }, { on := 8, ground := Ground.guard }], guard := some (8, true) }) rfl (fun KK hK => ?_) ?_
              · go_simp
                go_wp2_with (go_at_call 28; refine (HP28.out _).mono ?_; rintro r z18 ⟨rfl, hB18⟩)
                have hT18 := hHeld.below hB18
                clear hHeld hB18
                refine hK.out _ _ hT18 (fun hHeld => ?_)
                clear hK hT18
                refine wpAnyH_take (i := 15) (oi := { dst := some 148, op := Op.binOp BinOp.eql 9 (Operand.tmp 144) (Operand.tmp 147) 9, type := 4, pos := "law.go:88", after := #[{ on := 11, ground := Ground.data }, { on := 14, ground := Ground.data }, { on := 8, ground := Ground.guard }], guard := some (8, true) }) (v := .bool true) rfl (by kernel_rfl) (by kernel_rfl) (by kernel_rfl) (fun _ _ _ h => h) (Or.inl ⟨by rfl, ?h15_15⟩) hHeld ?_
                case h15_15 => intro wv hSw; (try dsimp only at hSw); go_simp; try with_reducible rfl
                try simp only [Act.put, List.setIfInBounds_toArray, List.set_cons_zero, List.set_cons_succ]
                refine wpAnyH_take (i := 16) (oi := { dst := some 149, op := Op.pick (Operand.tmp 141) (Operand.tmp 148) (Operand.const (Value.bool false)), type := 4, pos := "law.go:88", after := #[{ on := 8, ground := Ground.data }, { on := 15, ground := Ground.data }], guard := none }) (v := .bool true) rfl (by kernel_rfl) (by kernel_rfl) (by kernel_rfl) (fun _ _ _ h => h) (Or.inl ⟨by rfl, ?h16_16⟩) hHeld ?_
                case h16_16 => intro wv hSw; (try dsimp only at hSw); kernel_rfl
                try simp only [Act.put, List.setIfInBounds_toArray, List.set_cons_zero, List.set_cons_succ]
                refine wpAnyH_take (i := 17) (oi := { dst := some 4, op := Op.assign (Operand.tmp 149), type := 4, pos := "law.go:88", after := #[{ on := 16, ground := Ground.data }, { on := 14, ground := Ground.chain }, { on := 0, ground := Ground.phase }, { on := 1, ground := Ground.phase }, { on := 2, ground := Ground.phase }, { on := 3, ground := Ground.phase }, { on := 4, ground := Ground.phase }, { on := 5, ground := Ground.phase }, { on := 6, ground := Ground.phase }, { on := 7, ground := Ground.phase }, { on := 8, ground := Ground.phase }, { on := 9, ground := Ground.phase }, { on := 10, ground := Ground.phase }, { on := 11, ground := Ground.phase }, { on := 12, ground := Ground.phase }, { on := 13, ground := Ground.phase }, { on := 14, ground := Ground.phase }, { on := 15, ground := Ground.phase }, { on := 16, ground := Ground.phase }], guard := none }) (v := .bool true) rfl (by kernel_rfl) (by kernel_rfl) (by kernel_rfl) (fun _ _ _ h => h) (Or.inl ⟨by rfl, ?h17_17⟩) hHeld ?_
                case h17_17 => intro wv hSw; (try dsimp only at hSw); kernel_rfl
                try simp only [Act.put, List.setIfInBounds_toArray, List.set_cons_zero, List.set_cons_succ]
                refine wpAnyH_done (by kernel_rfl) ?_ _
                go_wp2
                go_ret
                exact ⟨rfl, HB9.out.trans (hHeld.bel.mono HB9.out.size)⟩
              exact AllReadyH.nil
            exact AllReadyH.nil
          exact AllReadyH.nil
        exact AllReadyH.nil
end Go.Proofs.YtbckogojnjmjcaaGreatDoor
