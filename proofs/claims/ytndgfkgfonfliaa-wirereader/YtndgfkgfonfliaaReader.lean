/-
  For every bytes and every calls the law WireReader returns true: what a reader answers, its place, what is left, and Done are the document's, whatever becomes of the bytes that it was made of; no condition.
-/
import Derived.Test.YtndgfkgfonfliaaAsked
import Derived.Test.YtndgfkgfonfliaaRowIn
import Derived.Deep.SlicePairs
namespace Go.Proofs.Ytndgfkgfonfliaa
open Go.ChangeShapes Go.WideShapes Go.ChangeAt Go.RowKit

/-- Asks that came in. -/
def AsksAt (N : Nat) (w : World) (a : Option Addr) (n : Nat) : Prop :=
  n = 0 ∨ ∃ b off, a = some ⟨b, off, none⟩ ∧ b < N ∧ ∀ i, i < n → ∃ kind most : Int, w.cell? ⟨b, off + i * 2, none⟩ = some (.int .i64 kind) ∧ w.cell? ⟨b, off + (i * 2 + 1), none⟩ = some (.int .i64 most)

theorem Rdr.base {N N' : Nat} {w : World} {R : Nat} {l : List UInt8} {a e : Nat} (h : Rdr N w R l a e) (hN : N' ≤ N) : Rdr N' w R l a e := by
  obtain ⟨hle, v, hR, hO, hvR⟩ := h
  exact ⟨by omega, v, hR, hO.base hN, hvR⟩

theorem Rdr.low {N : Nat} {w w' : World} {R : Nat} {l : List UInt8} {a e k : Nat} (h : Rdr N w R l a e) (hg : w.grownBy w' (some k)) (hk : k < N) : Rdr N w' R l a e := by
  have hlt := h.lt
  obtain ⟨hle, v, hR, hO, hvR⟩ := h
  refine ⟨hle, v, (hg.block R hlt (fun e => by cases e; omega)).trans hR, hO.kept hg ?_, hvR⟩
  cases hv : v.ownBlock with
  | none => exact .inl rfl
  | some j => exact .inr (fun e => by cases e; have := (World.ownsRow.lt hO k hv).1; omega)

set_option maxRecDepth 100000 in
set_option maxHeartbeats 4000000 in
theorem wireReader_walk0 (v : Value) (l : List UInt8) (a1 : Option Addr) (n1 c1 : Nat) (w : World) (hv : Sl w.heap.size w v l) (hA : AsksAt w.heap.size w a1 n1) :
    Calls Try.prog 6 #[v, .slice a1 n1 c1] w fun e w' => e = .returned (.bool true) ∧ Below w.heap.size w w' := by
  obtain ⟨av, c, rfl, -⟩ := id hv
  by_cases hs : n1 ≤ 300 ∧ l.length ≤ 20000
  · obtain ⟨hn, hl⟩ := hs
    have hn' : decide ((300 : Int) < (n1 : Int)) = false := by simp; omega
    have hl' : decide ((20000 : Int) < (l.length : Int)) = false := by simp; omega
    have HA : Hid (AsksAt w.heap.size w a1 n1) := hA
    clear hA
    go_enter Try.func6, Try.ntmps6
    go_wp2_with fail
    refine (first_any _).mono ?_
    rintro e w1 ⟨rfl, hB1⟩
    have hz1 := hB1.size
    have hv1 := hv.below hB1
    go_wp2_with fail
    refine (lent_any w.heap.size _ l _ hv1 hz1 hl).mono ?_
    rintro e w2 ⟨g, cap, rfl, hO2, hB2⟩
    have hz2 := hB2.size
    have hv2 := hv1.below (hB2.mono hz1)
    have hs2 := hO2.lent (Nat.le_refl w2.heap.size)
    go_wp2_with fail
    refine (newReader_any _ _ l _ hs2 (by omega)).mono ?_
    rintro e w3 ⟨R, rfl, hR3, hB3⟩
    have hz3 := hB3.size
    have hv3 := hv2.below (hB3.mono (by omega))
    have hO3 := hO2.below hB3 (Nat.le_refl _)
    have hgl : g < w2.heap.size := (World.ownsRow.lt hO2 g rfl).2
    have hgg : w1.heap.size ≤ g := (World.ownsRow.lt hO2 g rfl).1
    have HB3 : Hid (Below w.heap.size w w3) := (hB1.trans (hB2.mono hz1)).trans (hB3.mono (by omega))
    have hRle := hR3.le
    have hRlt := hR3.lt
    clear hB1 hB2 hB3 hO2 hs2 hv2 hv1 hv
    have hB4 : Below w3.heap.size w3 (w3.alloc (.cells #[.slice av l.length c, .int .i64 0, .int .i64 0] 61)) := (Below.refl _ _).alloc (Nat.le_refl _) _
    have hR4 := hR3.below hB4 (Nat.le_refl _)
    have hO4 := hO3.below hB4 (Nat.le_refl _)
    have hQ4 : Rrd w.heap.size (w3.alloc (.cells #[.slice av l.length c, .int .i64 0, .int .i64 0] 61)) w3.heap.size (.slice av l.length c) l 0 0 :=
      ⟨by omega, World.alloc_heap_new w3 _, hv3.below (hB4.mono (by omega))⟩
    have HB4 : Hid (Below w.heap.size w (w3.alloc (.cells #[.slice av l.length c, .int .i64 0, .int .i64 0] 61))) := HB3.out.trans (hB4.mono (by omega))
    clear hR3 hO3 hv3
    obtain ⟨W4, hW4⟩ : ∃ W4, w3.alloc (.cells #[.slice av l.length c, .int .i64 0, .int .i64 0] 61) = W4 := ⟨_, rfl⟩
    have hz4 : W4.heap.size = w3.heap.size + 1 := by rw [← hW4]; simp
    rw [hW4] at hB4 hR4 hO4 hQ4 HB4
    go_wp2_with fail
    clear hW4
    refine (kept_any _ g cap _ l _ hl hO4 (hQ4.sl.mono (by omega))).mono ?_
    rintro e w5 ⟨rfl, n5, rfl⟩
    have hR5 := hR4.drewN n5
    have hQ5 := hQ4.drewN n5
    have hO5 : Ow w1.heap.size (W4.drewN n5) (.slice (some ⟨g, 0, none⟩) (l.length + 1) cap) (l ++ [201]) := hO4.kept (grown_drewN W4 n5) (.inr (by simp [Value.ownBlock]))
    have hB5 : Below w.heap.size w (W4.drewN n5) := HB4.out.trans ⟨rfl, rfl, rfl, Nat.le_refl _, fun _ _ => rfl⟩
    have hcap := hO4.mark.2
    obtain ⟨Q, hQe⟩ : ∃ Q, w3.heap.size = Q := ⟨_, rfl⟩
    rw [hQe] at hQ5
    have hQg : g < Q := by omega
    have hQR : R < Q := by omega
    have HQ : Hid (w3.heap.size = Q) := hQe
    clear hR4 hQ4 hO4 HB4 HB3 hB4
    obtain ⟨W5, hW5⟩ : ∃ W5, W4.drewN n5 = W5 := ⟨_, rfl⟩
    rw [hW5] at hR5 hQ5 hO5 hB5 ⊢
    clear hW5
    go_wp2_with fail
    clear hQe
    unfold maxLen at hcap
    go_loopw [10] (fun i wr => ∃ (k : Nat) (T' : List UInt8), i = .int .i64 (k : Int) ∧ k ≤ l.length ∧ T'.length = l.length + 1 ∧ Ow w1.heap.size wr (.slice (some ⟨g, 0, none⟩) T'.length cap) T' ∧ Rdr w2.heap.size wr R l 0 0 ∧ Rrd w.heap.size wr Q (.slice av l.length c) l 0 0 ∧ Below w.heap.size w wr) (fun i _ => l.length - (intOf i).toNat)
    case atStart => exact ⟨0, l ++ [201], rfl, by omega, by simp, by simpa using hO5, hR5, hQ5, hB5⟩
    case round =>
      obtain ⟨k, T', rfl, hk, hT', hOr, hRr, hQr, hBr⟩ := hrel
      have HT' : Hid (T'.length = l.length + 1) := hT'
      by_cases hlt : k < l.length
      · obtain ⟨hc, hf, hgN⟩ := hOr.can k (by omega)
        unfold encB at hc
        have HN : Hid (Ow w1.heap.size (wr.setCell ⟨g, k, none⟩ (.int .u8 255)) (.slice (some ⟨g, 0, none⟩) (T'.set k 255).length cap) (T'.set k 255)) := by
          have := hOr.store k 255
          rw [List.length_set]; exact this
        have HR : Hid (Rdr w2.heap.size (wr.setCell ⟨g, k, none⟩ (.int .u8 255)) R l 0 0) := hRr.low (grown_set wr g k _) hgl
        have HQr : Hid (Rrd w.heap.size (wr.setCell ⟨g, k, none⟩ (.int .u8 255)) Q (.slice av l.length c) l 0 0) := hQr.kept (grown_set wr g k _) (by simp; omega) (fun j e => by cases e; omega)
        have HL : Hid (Below w.heap.size w (wr.setCell ⟨g, k, none⟩ (.int .u8 255))) := hBr.setCell (p := ⟨g, k, none⟩) (by show w.heap.size ≤ g; omega) _
        clear hT' hOr hRr hQr hBr hR5 hQ5 hO5 hB5
        go_wp2
        go_roundw
        case rel => exact ⟨k + 1, T'.set k 255, by go_num, by omega, by rw [List.length_set]; exact HT'.out, HN.out, HR.out, HQr.out, HL.out⟩
        case measure => simp [intOf]; omega
      · have hX0 : Both w.heap.size wr R Q (.slice av l.length c) l 0 0 := ⟨hRr.base (by omega), hQr, by omega⟩
        clear hT' hR5 hQ5 hO5 hB5 hOr hRr hQr
        obtain ⟨wo, rfl⟩ : ∃ wo : World, wo = wr := ⟨_, rfl⟩
        go_wp2_with fail
        go_loopw [11] (fun i wr => ∃ (k a e : Nat), i = .int .i64 (k : Int) ∧ k ≤ n1 ∧ Both w.heap.size wr R Q (.slice av l.length c) l a e ∧ Below w.heap.size w wr) (fun i _ => n1 - (intOf i).toNat)
        case atStart => exact ⟨0, 0, 0, rfl, by omega, hX0, hBr⟩
        case round =>
          obtain ⟨j, a, e, rfl, hj, hXr, hBj⟩ := hrel
          clear hX0 hBr
          by_cases hjn : j < n1
          · obtain ⟨b, off, ha1, hbN, hcells⟩ := HA.out.resolve_left (by omega)
            obtain ⟨kind, most, hk1, hk2⟩ := hcells j hjn
            subst ha1
            have r1 : wr.cell? ⟨b, off + j * 2, none⟩ = some (.int .i64 kind) := (hBj.cell (p := ⟨b, off + j * 2, none⟩) hbN).trans hk1
            have r2 : wr.cell? ⟨b, off + j * 2 + 1, none⟩ = some (.int .i64 most) := (hBj.cell (p := ⟨b, off + j * 2 + 1, none⟩) hbN).trans (by rw [Nat.add_assoc]; exact hk2)
            clear hcells hk1 hk2
            go_wp2_with fail
            refine (asked_any w.heap.size R Q _ l a e kind most _ hXr hl).mono ?_
            rintro r w6 ⟨rfl, a', e', hX6, hB6⟩
            have hB6' : Below w.heap.size w w6 := hBj.trans hB6
            clear hXr hBj hB6 r1 r2
            have ha6 := hX6.le
            obtain ⟨_, k1, _, _, _⟩ := hX6.q.cells
            have C34 : Hid (∀ nq, Calls Try.prog 34 #[.pointer (some ⟨R, 0, none⟩)] (w6.drewN nq) fun r w' => r = .returned (.int .i64 (a' : Int)) ∧ w' = w6.drewN nq) := fun nq => rAt_any _ R l a' e' _ (hX6.drewN nq).r
            have C35 : Hid (∀ nq, Calls Try.prog 35 #[.pointer (some ⟨R, 0, none⟩)] (w6.drewN nq) fun r w' => r = .returned (.int .i64 ((l.length : Int) - (a' : Int))) ∧ ∃ m, w' = (w6.drewN nq).drewN m) := fun nq => rLeft_any _ R l a' e' _ (hX6.drewN nq).r (by omega) ha6
            have C36 : Hid (∀ nq, Calls Try.prog 36 #[.pointer (some ⟨Q, 0, none⟩)] (w6.drewN nq) fun r w' => r = .returned (.int .i64 ((l.length : Int) - (a' : Int))) ∧ ∃ m, w' = (w6.drewN nq).drewN m) := fun nq => qLeft_any _ Q _ l a' e' _ (hX6.drewN nq).q hl ha6
            have C37 : Hid (∀ nq, Calls Try.prog 37 #[.pointer (some ⟨R, 0, none⟩)] (w6.drewN nq) fun r w' => r = .returned (.int .i64 (doneE l a' e' : Int)) ∧ ∃ m, w' = (w6.drewN nq).drewN m) := fun nq => rDone_any _ R l a' e' _ (hX6.drewN nq).r (by omega) ha6
            have C38 : Hid (∀ nq, Calls Try.prog 38 #[.pointer (some ⟨Q, 0, none⟩)] (w6.drewN nq) fun r w' => r = .returned (.int .i64 (doneE l a' e' : Int)) ∧ ∃ m, w' = (w6.drewN nq).drewN m) := fun nq => qDone_any _ Q _ l a' e' _ (hX6.drewN nq).q hl ha6
            generalize (doneE l a' e' : Int) = dn at C37 C38
            generalize ((l.length : Int) - (a' : Int)) = lf at C35 C36
            go_wp2_with fail
            go_quiet ((first
              | (go_at_call 34; exact Calls.quiet_of_same (C34.out _))
              | (go_at_call 35; exact Calls.quiet_of (C35.out _))
              | (go_at_call 36; exact Calls.quiet_of (C36.out _))
              | (go_at_call 37; exact Calls.quiet_of (C37.out _))
              | (go_at_call 13; exact Calls.quiet_of_same (num_any _ _))
              | (go_at_call 38; exact Calls.quiet_of (C38.out _))))
            have HF : Hid (∀ nq, Both w.heap.size (w6.drewN nq) R Q (.slice av l.length c) l a' e' ∧ Below w.heap.size w (w6.drewN nq)) := fun nq => ⟨hX6.drewN nq, hB6'.trans ⟨rfl, rfl, rfl, Nat.le_refl _, fun _ _ => rfl⟩⟩
            clear C34 C35 C36 C37 C38 hX6 hB6' k1
            go_wp2
            go_roundw
            case rel => exact ⟨j + 1, a', e', by go_num, by omega, (HF.out _).1, (HF.out _).2⟩
            case measure => simp [intOf]; omega
          · go_wp2
            go_ret
            exact ⟨rfl, hBj⟩
  · have hs' : decide ((300 : Int) < (n1 : Int)) = true ∨ (decide ((300 : Int) < (n1 : Int)) = false ∧ decide ((20000 : Int) < (l.length : Int)) = true) := by
      by_cases h : n1 ≤ 300
      · exact .inr ⟨by simp; omega, by simp; omega⟩
      · exact .inl (by simp; omega)
    clear hs
    rcases hs' with hs' | ⟨hs1, hs2⟩
    all_goals
      go_enter Try.func6, Try.ntmps6
      go_wp2_with fail
      refine (first_any _).mono ?_
      rintro e w1 ⟨rfl, hB1⟩
      go_wp2
      go_ret
      exact ⟨rfl, hB1⟩

theorem under64 : ∃ f0 f1 : Field, Try.prog.underlying 64 = some (.struct #[f0, f1]) ∧ f0.offset = 0 ∧ f1.offset = 1 ∧ f0.type = 3 ∧ f1.type = 3 := ⟨_, _, Try.underlying64, rfl, rfl, rfl, rfl⟩
theorem cells64 : Try.prog.cellsOf 64 = 2 := by kernel_rfl
theorem cells3 : Try.prog.cellsOf 3 = 1 := by kernel_rfl

set_option maxRecDepth 100000 in
theorem wireReader_lifted (os : Os) (started : os.Started) (H : Type) (enc : TypeId × Value → H) :
    ReturnsInHanded {} Try.checked os 6 .any (Rows.wireReaderSpec.pre6 enc Try.prog Try.f6 Rows.wireReaderRow.domain false) (Rows.wireReaderSpec.post enc Try.prog Try.f6 false true false false) := by
  refine returnsInHanded_of_change (C := Try.checked) own started (by kernel_rfl) Try.func6
    (ChangeSpec.witness6 (enc := enc) (C := Try.checked) false ⟨#[], #[.slice none 0 0, .slice none 0 0], []⟩ 8 (by kernel_rfl) (by kernel_rfl) (by kernel_rfl) (by kernel_rfl)) ?_
  intro W base args ds gs before hval0 hW hcnd _
  have hval : ∀ (j : Nat) t v, Try.f6.params[j]? = some t → args[j]? = some v → Value.okWide Try.prog W .any base t v := hval0
  have hW' := hW
  obtain ⟨p, q, hA0, hV, rfl, hfz, hnd⟩ := hW
  have hA : DataW.TrodAll enc Try.prog W 0 (fun _ => true) true Try.f6.params.toList args.toList ds p := hA0
  rw [Try.params6] at hA hval
  obtain ⟨v0, vs0, d0, ds0, p0, q0, hargs, rfl, rfl, h0, r0⟩ := trodAll_cons hA
  obtain ⟨v1, vs1, d1, ds1, p1, q1, rfl, rfl, rfl, h1, r1⟩ := trodAll_cons r0
  obtain ⟨rfl, rfl, rfl⟩ := trodAll_nil r1
  obtain rfl : args = #[v0, v1] := by cases args; simp_all
  obtain ⟨rfl, rfl⟩ := trodVars_none hV
  obtain ⟨a0, len0, cap0, rfl⟩ := okWide_slice Try.underlying23 (hval 0 23 v0 rfl rfl)
  have k0 := h0
  have lt0 : ∀ x ∈ p0, x.block < W.heap.size := by obtain ⟨m, hm⟩ := k0; exact DataW.trod_lt m _ _ _ hm
  obtain ⟨z0, w0⟩ : ∃ zs, IsRow .u8 W a0 len0 cap0 zs := by
    obtain ⟨fuel, hf⟩ := h0
    rcases open_ints Try.underlying23 Try.underlying5 (by kernel_rfl) hf with ⟨hcs, _⟩ | ⟨x, l, c, zs, hcs, _, hl, hm, hz, _, hcell, hwz⟩
    · simp [Value.cells] at hcs
      obtain ⟨rfl, rfl, rfl⟩ := hcs
      exact ⟨[], .inl ⟨rfl, rfl, rfl, rfl⟩⟩
    · simp [Value.cells] at hcs
      obtain ⟨rfl, rfl, rfl⟩ := hcs
      exact ⟨zs, .inr ⟨_, rfl, hl, hm, by simpa using hz, hcell, hwz⟩⟩
  obtain ⟨a1, len1, cap1, rfl⟩ := okWide_slice Try.underlying56 (hval 1 56 v1 rfl rfl)
  have k1 := h1
  have lt1 : ∀ x ∈ p1, x.block < W.heap.size := by obtain ⟨m, hm⟩ := k1; exact DataW.trod_lt m _ _ _ hm
  have w1 : AsksAt W.heap.size W a1 len1 := by
    obtain ⟨fuel, hf⟩ := h1
    obtain ⟨f0, f1, hu, o0, o1, t0, t1⟩ := under64
    rcases Deep.open_slice_pairs Try.underlying56 hu cells64 o0 o1 (by rw [t0]; exact cells3) (by rw [t1]; exact cells3) hf with ⟨hcs, _⟩ | ⟨x, l, c, m, n, V0, V1, D0, D1, P0, P1, hcs, _, hl, hm, hmm, _, hcell⟩
    · simp [Value.cells] at hcs
      obtain ⟨rfl, rfl, rfl⟩ := hcs
      exact .inl rfl
    · simp [Value.cells] at hcs
      obtain ⟨rfl, rfl, rfl⟩ := hcs
      by_cases hz : len1 = 0
      · exact .inl hz
      · have hml : len1 ≤ m := by rw [hmm]; split <;> omega
        obtain ⟨b, off, spot⟩ := x
        have hc0 := (hcell 0 (by omega)).1
        have hspot : spot = none := by simpa [Addr.add] using World.cell?_spot hc0
        subst hspot
        refine .inr ⟨b, off, rfl, ?_, fun i hi => ?_⟩
        · have := cell_lt hc0; rw [Addr.add_lit] at this; exact this
        · obtain ⟨h1, h2, h3, h4⟩ := hcell i (by omega)
          rw [Addr.add_lit] at h1 h2
          rw [t0] at h3
          rw [t1] at h4
          obtain ⟨z1, e1, -, -⟩ := DataW.trod_int Try.underlying3 h3
          obtain ⟨z2, e2, -, -⟩ := DataW.trod_int Try.underlying3 h4
          simp at e1 e2
          rw [e1] at h1
          rw [e2] at h2
          exact ⟨z1, z2, h1, h2⟩
  clear hA0 hval0
  obtain ⟨l, hll, hsl⟩ := isRow_sl w0
  subst hll
  refine (wireReader_walk0 _ l a1 len1 cap1 W hsl w1).mono fun e W' ⟨he, bel⟩ => ?_
  subst he
  exact ⟨_, rfl, _, _, _, [], _, [], hW', trodAll_mk1 (shut_bool Try.underlying4 _), (trodAll_cons_mk (Below.trod laidOut (by kernel_rfl) (of_decide_eq_true (by kernel_rfl)) k0 bel lt0) (trodAll_cons_mk (Below.trod laidOut (by kernel_rfl) (of_decide_eq_true (by kernel_rfl)) k1 bel lt1) trodAll_mk0)), rfl, bel.frame _, fun h => by cases h⟩

theorem wireReader_holds : Rows.WireReaderSaid :=
  OpenClaim.holds_of_wide 6 Try.f6 rfl rfl rfl rfl rfl rfl rfl ⟨rfl, rfl, rfl, rfl, rfl⟩ rfl rfl rfl rfl rfl (by kernel_rfl) Try.func6 (by kernel_rfl)
    (of_decide_eq_true (by kernel_rfl)) (by unfold Func.isWrapper; first | (rw [if_pos (by decide +kernel)]; kernel_rfl) | (rw [if_neg (by decide +kernel)]; exact ⟨rfl, rfl⟩))
    (fun os started H enc _ => wireReader_lifted os started H enc)
#print axioms wireReader_holds
end Go.Proofs.Ytndgfkgfonfliaa
