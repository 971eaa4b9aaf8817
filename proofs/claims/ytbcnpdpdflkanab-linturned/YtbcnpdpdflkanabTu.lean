/-
  LinTurned.
-/
import Derived.Test.YtbcnpdpdflkanabPt
namespace Go.Proofs.Ytbcnpdpdflkanab
open Go.RowKit

/-- Numbers that came in. -/
def NAt (w : World) (a : Option Addr) (l : List Int) : Prop := l = [] ∨ ∃ b off, a = some ⟨b, off, none⟩ ∧ b < w.heap.size ∧ ∀ i, i < l.length → w.cell? ⟨b, off + i, none⟩ = some (.int .i64 (l.getD i 0))
theorem inInts {H : Type} {enc : TypeId × Value → H} {W : World} {n : Nat} {v : Value} {x : DataW H × List MemPlace} (h : DataW.trod enc Try.prog W 0 (fun _ => true) true n 23 [v] = some x) :
    ∃ (ea : Option Addr) (ec : Nat) (es : List Int), v = .slice ea es.length ec ∧ NAt W ea es ∧ es.length ≤ maxLen := by
  rcases ChangeShapes.open_ints Try.underlying23 Try.underlying3 (by kernel_rfl) h with ⟨hcs, _⟩ | ⟨x, l, c, zs, hcs, _, hl, hm, hz, _, hcell, hwz⟩
  · simp at hcs
    exact ⟨none, 0, [], hcs, .inl rfl, by simp⟩
  · simp at hcs
    by_cases hl0 : l = 0
    · subst hl0
      exact ⟨some x, c, [], hcs, .inl rfl, by simp⟩
    have hzl : l ≤ zs.length := by rw [hz]; simp; omega
    have hlen : (zs.take l).length = l := by simp; omega
    obtain ⟨b, off, spot⟩ := x
    have h0 := hcell 0 (by omega)
    have hspot : spot = none := by simpa [Addr.add] using World.cell?_spot h0
    subst hspot
    refine ⟨some ⟨b, off, none⟩, c, zs.take l, by rw [hlen]; exact hcs, .inr ⟨b, off, rfl, ?_, fun i hi => ?_⟩, by rw [hlen]; omega⟩
    · have := cell_lt h0
      simpa [Addr.add] using this
    · rw [hlen] at hi
      have := hcell i (by omega)
      rw [Addr.add_lit] at this
      rw [this]
      simp [List.getD_eq_getElem?_getD, hi]
theorem oat_drop {h : List Lo} {k : Nat} (hk : k < h.length) : h.drop k = oat h k :: h.drop (k + 1) := by
  rw [List.drop_eq_getElem_cons hk]
  congr 1
  unfold oat; rw [List.getElem?_eq_getElem hk]; rfl
theorem oat_take {h : List Lo} {k : Nat} (hk : k < h.length) : h.take (k + 1) = h.take k ++ [oat h k] := by
  rw [List.take_add_one, List.getElem?_eq_getElem hk]
  unfold oat; rw [List.getElem?_eq_getElem hk]; rfl

set_option maxRecDepth 100000 in
set_option maxHeartbeats 4000000 in
theorem turned_walk (w : World) (a : Option Addr) (cap : Nat) (h : List Lo) (hA : HAt w.heap.size w a h) (hin : ∀ o ∈ h, InO o) (hl : h.length ≤ maxLen) (_hc1 : h.length ≤ cap) (_hc2 : cap ≤ maxLen)
    (sa : Option Addr) (sc : Nat) (ss : List Int) (hS : NAt w sa ss) (hsl : ss.length ≤ maxLen) :
    Calls Try.prog 3 #[.slice a h.length cap, .slice sa ss.length sc] w fun e w' => e = .returned (.bool true) ∧ Below w.heap.size w w' := by
  have HF := first_any
  have hok : ∀ o ∈ h, LoOk o := fun o ho => (hin o ho).ok
  have HFW : Hid (∀ w1, Below w.heap.size w w1 → Calls Try.prog 6 #[.slice a h.length cap] w1 (FewR h w1)) := fun w1 hB => few_any w.heap.size w1 a cap h (hA.below hB) hok hl
  have HCK : Hid (∀ w1, Below w.heap.size w w1 → Calls Try.prog 7 #[.slice a h.length cap] w1 fun e w' => e = .returned (.tuple #[.bool (checkE h), .int .i64 (valid h)]) ∧ Below w1.heap.size w1 w') := fun w1 hB => check_any w.heap.size w1 a cap h hB.size (hA.below hB) hok hl
  have hl' := hl
  have hsl' := hsl
  unfold maxLen at hl' hsl'
  have HN := num_any
  go_enter Try.func3, Try.ntmps3
  go_wp2_with (first
    | (go_at_call 5; refine (HF _).mono ?_; rintro e w1 ⟨rfl, hB1⟩)
    | fail)
  refine (HFW.out _ hB1).mono ?_
  rintro e w2 ⟨t, n2, rfl, ht, rfl⟩
  have hB2 : Below w.heap.size w (w1.drewN n2) := ⟨hB1.os, hB1.tape, hB1.output, hB1.size, hB1.block⟩
  generalize w1.drewN n2 = w2 at *
  clear hB1
  cases t with
  | false =>
    go_wp2
    go_ret
    exact ⟨rfl, hB2⟩
  | true =>
    have h6 := ht rfl
    clear ht
    by_cases hv : valid h = 0
    · have HCK2 := HCK.out w2 hB2
      rw [hv] at HCK2
      have HV : Hid (valid h = 0) := hv
      clear hv
      generalize hce : checkE h = ce at *
      have HCE : Hid (checkE h = ce) := hce
      clear hce
      go_wp2_with fail
      refine HCK2.mono ?_
      rintro e w3 ⟨rfl, hB3⟩
      go_wp2_with (go_at_call 8; refine (HN _ _).mono ?_; rintro e w4 ⟨rfl, rfl⟩)
      have hB3' : Below w.heap.size w w4 := hB2.trans (hB3.mono hB2.size)
      clear hB3 hB2 HCK2
      go_loopw [11, 9] (fun i tv wr => ∃ (k : Nat) (T : List Lo), i = .int .i64 ((k : Int) - 1) ∧ k ≤ h.length ∧ OOw w.heap.size wr tv T ∧ T.map ess = ((h.drop k).map ess).reverse ∧ (∀ o ∈ T, LoOk o) ∧ Below w.heap.size w wr) (fun i _ _ => (intOf i + 1).toNat)
      case atStart => exact ⟨h.length, [], by simp, by omega, World.ownsRow_nil _ _ _ _, by simp, by simp, hB3'⟩
      case round =>
        obtain ⟨k, T, rfl, hk, hO, hTe, hTok, hB4⟩ := hrel
        have hz4 := hB4.size
        obtain ⟨ta, tc, hts, -, -⟩ := row_shape hO
        subst hts
        by_cases hk0 : k = 0
        · subst hk0
          rw [List.drop_zero] at hTe
          have HT : Hid (OOw w.heap.size wr (.slice ta T.length tc) T ∧ T.map ess = (h.map ess).reverse ∧ ∀ o ∈ T, LoOk o) := ⟨hO, hTe, hTok⟩
          have hTl : T.length = h.length := by have := congrArg List.length hTe; simpa using this
          have hTl2 : T.length ≤ 600 := by omega
          clear hO hTe hTok hTl
          go_wp2
          go_loopw [13, 10] (fun i lv wq => ∃ (m : Nat) (G : List Lo), i = .int .i64 m ∧ m ≤ h.length ∧ OOw w.heap.size wq lv G ∧ G = (h.take m).filter Lo.counts ∧ OOw w.heap.size wq (.slice ta T.length tc) T ∧ Below w.heap.size w wq ∧ (∀ g, lv.ownBlock = some g → (Value.slice ta T.length tc).ownBlock ≠ some g)) (fun i _ _ => h.length - (intOf i).toNat)
          case atStart => exact ⟨0, [], rfl, by omega, World.ownsRow_nil _ _ _ _, by simp, HT.out.1, hB4, fun g hg => by cases hg⟩
          case round =>
            obtain ⟨m, G, rfl, hm, hG, hGe, hT5, hB5, hne⟩ := hrel
            have hz5 := hB5.size
            obtain ⟨ga, gc, hgs, -, -⟩ := row_shape hG
            subst hgs
            by_cases hlt : m < h.length
            · obtain ⟨b, off, rfl, hb, hcs⟩ := (hA.below hB5).at hlt
              have HX := counts_any (oat h m)
              have htk := oat_take hlt
              have HSt : Hid ((oat h m).counts = true → (h.take (m + 1)).filter Lo.counts = G ++ [oat h m]) := fun hc => by
                rw [htk, List.filter_append, ← hGe]; simp [hc]
              have HSf : Hid ((oat h m).counts = false → (h.take (m + 1)).filter Lo.counts = G) := fun hc => by
                rw [htk, List.filter_append, ← hGe]; simp [hc]
              have hGl : G.length ≤ 600 := by rw [hGe]; have := List.length_filter_le Lo.counts (h.take m); have := List.length_take_le m h; omega
              generalize oat h m = x at *
              obtain ⟨c0, c1, c2, c3, c4, c5, c6, c7, c8, c9⟩ := hcs
              have HG : Hid (OOw w.heap.size wr (.slice ga G.length gc) G) := hG
              have HT5 : Hid (OOw w.heap.size wr (.slice ta T.length tc) T) := hT5
              have HNE : Hid (∀ g, (Value.slice ga G.length gc).ownBlock = some g → (Value.slice ta T.length tc).ownBlock ≠ some g) := hne
              clear hG hT5 hne hGe htk
              unfold Lo.v Lo.box Lo.cells at HX
              unfold str at HX c3 c4 c5 c9
              have qz := (past2 (w1 := wr) (b := b) (by omega)).2.1
              by_cases hx : x.counts = true
              · rw [hx] at HX
                have HXC : Hid (x.counts = true) := hx
                clear hx
                have HHX : Hid (x.cells = #[.int .i64 x.cl, .int .i64 x.sq, .int .i64 x.kind, .string ⟨x.key.toArray⟩, .string ⟨x.val.toArray⟩, .string ⟨x.old.toArray⟩, .int .i64 x.call, .int .i64 x.back, .int .i64 x.rp.code, .string ⟨x.rp.val.toArray⟩]) := rfl
                go_wp2_with (first
                  | (go_at_call 9; refine (HX _).mono ?_; rintro e w7 ⟨rfl, rfl⟩)
                  | (at_builtin; refine wpList_app tyO rfl _ _ rfl w.heap.size _ G.length _ ⟨wr.heap.size + 2, 0, none⟩ 1 1 x.cells.toList rfl (World.ownsRow.alloc (World.ownsRow.alloc (World.ownsRow.alloc HG.out _) _) _) rfl rfl (by rw [HHX.out]; exact news10 _ _ (by simp) _) (lo_one _) (by omega) (by simp; omega) ?_; intro v5 w5 p1 p2 p3; obtain ⟨s5, c5', hv5, -, -⟩ := row_shape p1; subst hv5))
                have hB6 : Below w.heap.size w w5 := (((hB5.alloc (by omega) _).alloc (by simp; omega) _).alloc (by simp; omega) _).grown p2 (by simp; omega) (fun g hg => (World.ownsRow.lt HG.out g hg).1)
                have hT6 : OOw w.heap.size w5 (.slice ta T.length tc) T := row_out (X := fun i => (Value.slice ga G.length gc).ownBlock = some i) (World.ownsRow.alloc (World.ownsRow.alloc (World.ownsRow.alloc HT5.out _) _) _) (Out.grown p2 (fun j e => e)) (fun g hg e => HNE.out g e hg)
                go_roundw
                case rel =>
                  refine ⟨_, _, _, _, _, _, _, _, _, _, _, _, _, _, _, _, _, _, _, _, ?_, rfl⟩
                  refine ⟨m + 1, G ++ [x], by simp, by omega, by simpa using OOw.snoc p1, (HSt.out HXC.out).symm, hT6, hB6, fun g hg => ?_⟩
                  rcases p3 with e | e
                  · rw [e] at hg; exact HNE.out g hg
                  · rw [e] at hg
                    cases hg
                    intro e2
                    have := (World.ownsRow.lt HT5.out _ e2).2
                    simp at this
                    omega
                case measure => (simp [intOf]; try omega)
              · have hx' : x.counts = false := by simpa using hx
                rw [hx'] at HX
                have HXC : Hid (x.counts = false) := hx'
                clear hx hx'
                go_wp2_with (go_at_call 9; refine (HX _).mono ?_; rintro e w7 ⟨rfl, rfl⟩)
                go_roundw
                case rel =>
                  refine ⟨_, _, _, _, _, _, _, _, _, _, _, _, _, _, _, _, _, _, _, _, ?_, rfl⟩
                  exact ⟨m + 1, G, by simp, by omega, World.ownsRow.alloc (World.ownsRow.alloc HG.out _) _, (HSf.out HXC.out).symm, World.ownsRow.alloc (World.ownsRow.alloc HT5.out _) _, (hB5.alloc (by omega) _).alloc (by simp; omega) _, HNE.out⟩
                case measure => (simp [intOf]; try omega)
            · have : m = h.length := by omega
              subst this
              rw [List.take_length] at hGe
              have hGl : G.length ≤ 600 := by rw [hGe]; have := List.length_filter_le Lo.counts h; omega
              have HC1 := check_any _ _ ta tc T (Nat.le_refl _) (OOw.hat hT5 (Nat.le_refl _)) HT.out.2.2 (by unfold maxLen; omega)
              rw [turned_check HT.out.2.1 HV.out, turned_valid HT.out.2.1 HV.out, HCE.out] at HC1
              have HC2 : Hid (∀ w7, Below wr.heap.size wr w7 → Calls Try.prog 7 #[.slice ga G.length gc] w7 fun e w' => e = .returned (.tuple #[.bool ce, .int .i64 0]) ∧ Below w7.heap.size w7 w') := fun w7 h7 => by
                have := check_any _ _ ga gc G (Nat.le_refl _) (OOw.hat (row_below hG h7) (Nat.le_refl _)) (fun o ho => hok o (by rw [hGe] at ho; exact (List.mem_filter.1 ho).1)) (by unfold maxLen; omega)
                rw [hGe] at this
                rw [less_check HV.out, less_valid HV.out, HCE.out, ← hGe] at this
                exact this
              clear hG hT5 hne hGe
              go_wp2_with fail
              refine HC1.mono ?_
              rintro e w7 ⟨rfl, hB7⟩
              go_wp2_with fail
              refine (HC2.out w7 hB7).mono ?_
              rintro e w8 ⟨rfl, hB8⟩
              have HB8 : Hid (Below w.heap.size w w8) := (hB5.trans (hB7.mono hz5)).trans (hB8.mono (by have := hB7.size; omega))
              cases ce
              all_goals (
                go_wp2_with (go_at_call 8; refine (HN _ _).mono ?_; rintro e w9 ⟨rfl, rfl⟩)
                go_ret
                exact ⟨rfl, HB8.out⟩)
        · obtain ⟨j, rfl⟩ : ∃ j, k = j + 1 := ⟨k - 1, by omega⟩
          have hlt : j < h.length := by omega
          rw [show (((j + 1 : Nat) : Int) - 1) = (j : Int) from by omega]
          obtain ⟨b, off, rfl, hb, hcs⟩ := (hA.below hB4).at hlt
          have hOx := hok _ (oat_mem hlt)
          have hdr := oat_drop hlt
          have hTl : T.length ≤ 600 := by have := congrArg List.length hTe; simp at this; omega
          have HSN : Hid (∀ y, ess y = ess (oat h j) → (T ++ [y]).map ess = ((h.drop j).map ess).reverse) := fun y hy => by
            rw [hdr, List.map_append, hTe]
            simp [hy]
          have HOK : Hid (∀ y : Lo, y.key = (oat h j).key → y.val = (oat h j).val → y.old = (oat h j).old → y.rp.val = (oat h j).rp.val → ∀ o ∈ T ++ [y], LoOk o) := fun y h1 h2 h3 h4 o ho => by
            rcases List.mem_append.1 ho with ho | ho
            · exact hTok o ho
            · cases List.mem_singleton.1 ho
              exact ⟨by rw [h1]; exact hOx.key, by rw [h2]; exact hOx.val, by rw [h3]; exact hOx.old, by rw [h4]; exact hOx.rv⟩
          have HO : Hid (OOw w.heap.size wr (.slice ta T.length tc) T) := hO
          generalize oat h j = x at *
          obtain ⟨c0, c1, c2, c3, c4, c5, c6, c7, c8, c9⟩ := hcs
          unfold str at c3 c4 c5 c9
          clear hO hTe hTok hdr hk0 hOx
          by_cases hse : ss = []
          · have hs0 : ss.length = 0 := by rw [hse]; rfl
            have HHX : Hid (x.cells = #[.int .i64 x.cl, .int .i64 x.sq, .int .i64 x.kind, .string ⟨x.key.toArray⟩, .string ⟨x.val.toArray⟩, .string ⟨x.old.toArray⟩, .int .i64 x.call, .int .i64 x.back, .int .i64 x.rp.code, .string ⟨x.rp.val.toArray⟩]) := rfl
            rw [hs0]
            go_wp2_with (first
              | (at_builtin; refine wpList_app tyO rfl _ _ rfl w.heap.size _ T.length _ ⟨wr.heap.size + 1, 0, none⟩ 1 1 (x : Lo).cells.toList rfl (World.ownsRow.alloc (World.ownsRow.alloc HO.out _) _) rfl rfl (by rw [HHX.out]; exact news10 _ _ (by simp) _) (lo_one _) (by omega) (by simp; omega) ?_; intro v5 w5 p1 p2 p3; obtain ⟨s5, c5', hv5, -, -⟩ := row_shape p1; subst hv5))
            have hB6 : Below w.heap.size w w5 := ((hB4.alloc (by omega) _).alloc (by simp; omega) _).grown p2 (by simp; omega) (fun g hg => (World.ownsRow.lt HO.out g hg).1)
            go_roundw
            case rel =>
              first
                | exact ⟨j, T ++ [x], by simp, by omega, by simpa using OOw.snoc p1, HSN.out _ rfl, HOK.out _ rfl rfl rfl rfl, hB6⟩
                | (refine ⟨_, _, _, _, _, _, _, _, _, _, _, _, _, _, _, _, _, _, _, _, _, _, _, _, _, _, _, _, _, _, _, _, _, _, ?_, rfl⟩
                   exact ⟨j, T ++ [x], by simp, by omega, by simpa using OOw.snoc p1, HSN.out _ rfl, HOK.out _ rfl rfl rfl rfl, hB6⟩)
            case measure => (simp [intOf]; try omega)
          · have hsp : 0 < ss.length := List.length_pos_iff.2 hse
            obtain ⟨sb, so, rfl, hsb, hsc⟩ := hS.resolve_left hse
            have hq1 : Int.tmod (j : Int) (ss.length : Int) = ((j % ss.length : Nat) : Int) := by rw [Int.tmod_eq_emod_of_nonneg (by omega)]; rfl
            have hq2 : Int.tmod ((j : Int) + 1) (ss.length : Int) = (((j + 1) % ss.length : Nat) : Int) := by rw [Int.tmod_eq_emod_of_nonneg (by omega)]; rfl
            have hm1 := Nat.mod_lt j hsp
            have hm2 := Nat.mod_lt (j + 1) hsp
            have s1 := (hB4.cell (p := ⟨sb, so + j % ss.length, none⟩) hsb).trans (hsc _ hm1)
            have s2 := (hB4.cell (p := ⟨sb, so + (j + 1) % ss.length, none⟩) hsb).trans (hsc _ hm2)
            generalize j % ss.length = q1 at *
            generalize (j + 1) % ss.length = q2 at *
            generalize ss.getD q1 0 = y1 at *
            generalize ss.getD q2 0 = y2 at *
            have qs := past1 (w1 := wr) (b := sb) (by omega)
            have HHX : Hid (({ x with cl := y1, sq := y2 } : Lo).cells = #[.int .i64 y1, .int .i64 y2, .int .i64 x.kind, .string ⟨x.key.toArray⟩, .string ⟨x.val.toArray⟩, .string ⟨x.old.toArray⟩, .int .i64 x.call, .int .i64 x.back, .int .i64 x.rp.code, .string ⟨x.rp.val.toArray⟩]) := rfl
            clear hsc hse
            go_wp2_with (first
              | (at_builtin; refine wpList_app tyO rfl _ _ rfl w.heap.size _ T.length _ ⟨wr.heap.size + 1, 0, none⟩ 1 1 ({ x with cl := y1, sq := y2 } : Lo).cells.toList rfl (World.ownsRow.alloc (World.ownsRow.alloc HO.out _) _) rfl rfl (by rw [HHX.out]; exact news10 _ _ (by simp) _) (lo_one _) (by omega) (by simp; omega) ?_; intro v5 w5 p1 p2 p3; obtain ⟨s5, c5', hv5, -, -⟩ := row_shape p1; subst hv5))
            have hB6 : Below w.heap.size w w5 := ((hB4.alloc (by omega) _).alloc (by simp; omega) _).grown p2 (by simp; omega) (fun g hg => (World.ownsRow.lt HO.out g hg).1)
            go_roundw
            case rel =>
              first
                | exact ⟨j, T ++ [{ x with cl := y1, sq := y2 }], by simp, by omega, by simpa using OOw.snoc p1, HSN.out _ rfl, HOK.out _ rfl rfl rfl rfl, hB6⟩
                | (refine ⟨_, _, _, _, _, _, _, _, _, _, _, _, _, _, _, _, _, _, _, _, _, _, _, _, _, _, _, _, _, _, _, _, _, _, ?_, rfl⟩
                   exact ⟨j, T ++ [{ x with cl := y1, sq := y2 }], by simp, by omega, by simpa using OOw.snoc p1, HSN.out _ rfl, HOK.out _ rfl rfl rfl rfl, hB6⟩)
            case measure => (simp [intOf]; try omega)
    · have HCK2 := HCK.out w2 hB2
      have hce : checkE h = false := by unfold checkE; simp [hv]
      have hne : (valid h != 0) = true := by simpa using hv
      rw [hce] at HCK2
      generalize valid h = vh at *
      clear hce hv
      go_wp2_with fail
      refine HCK2.mono ?_
      rintro e w3 ⟨rfl, hB3⟩
      go_wp2_with (go_at_call 8; refine (HN _ _).mono ?_; rintro e w4 ⟨rfl, rfl⟩)
      go_ret
      exact ⟨rfl, hB2.trans (hB3.mono hB2.size)⟩
end Go.Proofs.Ytbcnpdpdflkanab
