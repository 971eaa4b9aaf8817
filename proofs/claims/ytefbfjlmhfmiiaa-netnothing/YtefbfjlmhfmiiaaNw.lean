/-
  NetNothing: the law.
-/
import Derived.Test.YtefbfjlmhfmiiaaNn
import Derived.Test.YtefbfjlmhfmiiaaFw
import Derived.Deep.CutBlock
namespace Go.Proofs.Ytefbfjlmhfmiiaa
open Go.RowKit
set_option linter.unusedVariables false

theorem Nt.base {N N' : Nat} {S : Nat → Prop} {w : World} {b : Nat} {P : PN} (h : Nt N S w b P) (hN : N' ≤ N) : Nt N' S w b P := ⟨h.at_, h.ok, h.Sb, h.inn, fun i hi => Nat.le_trans hN (h.fr i hi)⟩

/-- Behind an operation. -/
def NR (n : Nat) (N : Nat) (w wr : World) (b : Nat) (P : PN) (v : Value) : Prop := ∃ S' P' sl', NS N w wr b v S' P' sl' ∧ Grow P P' ∧ sl'.length ≤ n

set_option maxRecDepth 100000 in
set_option maxHeartbeats 8000000 in
theorem nothing_walk (nodes : Int) (a : Option Addr) (c : Nat) (l : List Opn) (w : World) (h : OpsAt w.heap.size w a l) (hl : l.length ≤ 9223372036854775807) (hin : ∀ i, i < l.length → OpnIn (l.getD i nilOpn)) :
    Calls Try.prog 5 #[.int .i64 nodes, .slice a l.length c] w fun e w' => e = .returned (.bool true) ∧ Below w.heap.size w w' := by
  have HO : Hid (OpsAt w.heap.size w a l) := h
  have HIN : Hid (∀ i, i < l.length → OpnIn (l.getD i nilOpn)) := hin
  clear h hin
  go_enter Try.func5, Try.ntmps5
  go_wp2_with fail
  refine (first_any w).mono ?_
  rintro e w1 ⟨rfl, hB1⟩
  have HB1 : Hid (Below w.heap.size w w1) := hB1
  have hz1 := hB1.size
  clear hB1
  go_wp2_with fail
  refine (few_any a c l w.heap.size w1 (HO.out.below HB1.out) hz1 hl).mono ?_
  rintro e w2 ⟨t, rfl, ht, hw⟩
  subst w2
  have HT : Hid (t = true → l.length ≤ 300) := ht
  clear ht
  go_wp2_with fail
  by_cases hn : 1 ≤ nodes ∧ nodes ≤ 7
  · refine (New_any nodes hn.1 hn.2 w1).mono ?_
    rintro e w3 ⟨b, S, L, rfl, hNt, -, hB3⟩
    have HN3 : Hid (Nt w.heap.size S w3 b (newN nodes L)) := hNt.base hz1
    have HB3 : Hid (Below w.heap.size w w3) := HB1.out.trans (hB3.mono hz1)
    clear hNt hB3 HB1 hz1 hn
    cases t with
    | false =>
      go_wp2
      go_ret
      exact ⟨rfl, HB3.out⟩
    | true =>
      have hl3 : l.length ≤ 300 := HT.out rfl
      clear HT
      go_wp2_with fail
      obtain ⟨G, hG⟩ : ∃ G, w.heap.size = G := ⟨_, rfl⟩
      have HG : Hid (w.heap.size = G) := hG
      rw [hG] at HN3 HB3 HO
      clear hG
      go_loopw [8, 9, 10] (fun rv sv iv wr => ∃ (i : Nat) (S : Nat → Prop) (P : PN) (sl : List Ml), iv = .int .i64 (i : Int) ∧ sv = .int .i64 P.k ∧ i ≤ l.length ∧ NS G w wr b rv S P sl ∧ sl.length ≤ i ∧ P.k ≤ i) (fun _ _ iv _ => l.length - (intOf iv).toNat)
      case atStart => exact ⟨0, S, newN nodes L, [], rfl, rfl, Nat.zero_le _, ⟨HN3.out, MlsOw.nil _ _ _, by simp [Value.ownBlock], by simp, HB3.out, ⟨by simp [newN], by simp [newN], by simp [newN]⟩⟩, Nat.le_refl _, by simp [newN]⟩
      case round =>
        obtain ⟨i, S1, P, sl, rfl, rfl, hi, hNS, hsl, hPk⟩ := hrel
        have HNS : Hid (NS G w wr b u8 S1 P sl) := hNS
        have HSL : Hid (sl.length ≤ i) := hsl
        have hGw : G ≤ w.heap.size := by rw [HG.out]; exact Nat.le_refl _
        clear hNS hsl
        by_cases hlt : i < l.length
        · obtain ⟨ab, off, hea, hb, he⟩ := HO.out.at hlt
          subst hea
          have hon := HIN.out i hlt
          have he1 := he.below hb HNS.out.bel
          have hda := he.2
          generalize l.getD i nilOpn = o at *
          obtain ⟨kd, oa, ob, up, da, dc, d⟩ := o
          obtain ⟨⟨c0, c1, c2, c3, c4⟩, -⟩ := he1
          unfold Opn.x at c4 hda
          simp only at c0 c1 c2 c3 c4 hda
          have HDA : Hid (Sl G w (.slice da d.length dc) d) := hda
          have hdl : d.length ≤ 140737488351232 := hon.2
          have hob63 : ob ≤ 9223372036854775807 := hon.1
          have i0 : (0 : Int) ≤ (i : Int) := by omega
          have i1 : (i : Int) < (l.length : Int) := by omega
          have hbw : ab < wr.heap.size := by have := HNS.out.bel.size; omega
          clear he hda hb hon
          obtain ⟨W1, hW1⟩ : ∃ W1, wr.alloc (.cells #[.int .i64 kd, .int .i64 oa, .int .i64 ob, .bool up, .slice da d.length dc] 32) = W1 := ⟨_, rfl⟩
          have HW1 : Hid (wr.alloc (.cells #[.int .i64 kd, .int .i64 oa, .int .i64 ob, .bool up, .slice da d.length dc] 32) = W1) := hW1
          have hBa : Below wr.heap.size wr W1 := by rw [← hW1]; exact (Below.refl _ wr).alloc (Nat.le_refl _) _
          have hX1 : W1.heap[wr.heap.size]? = some (.cells #[.int .i64 kd, .int .i64 oa, .int .i64 ob, .bool up, .slice da d.length dc] 32 (0, 0)) := by rw [← hW1]; exact heap_alloc_new wr _
          have hXw : wr.heap.size < W1.heap.size := by rw [← hW1]; simp
          have HNS1 : Hid (NS G w W1 b u8 S1 P sl) := HNS.out.below hGw hBa
          have HXX : Hid (∀ w2, Out S1 W1 w2 → w2.heap[wr.heap.size]? = some (.cells #[.int .i64 kd, .int .i64 oa, .int .i64 ob, .bool up, .slice da d.length dc] 32 (0, 0)) ∧ wr.heap.size < w2.heap.size) := fun w2 hO => ⟨(hO.block _ hXw (fun hs => by have := HNS.out.nt.inn _ hs; omega)).trans hX1, Nat.lt_of_lt_of_le hXw hO.size⟩
          have hGz : G ≤ W1.heap.size := by have := HNS1.out.bel.size; omega
          have hk9 : P.k < 1000000000 := by omega
          have hk0 := HNS1.out.nt.ok.k0
          have HP2K : Hid (P.E.length ≤ 2000) := HNS1.out.nt.ok.row
          have HSEP : Hid (∀ w', Out (fun j => j = b) W1 w' → Sl w'.heap.size w' (.slice da d.length dc) d) := fun w' hO => by
            have h1 : Below G w w' := HNS1.out.bel.trans (hO.below hGz (fun j hj => by rw [hj]; exact HNS1.out.nt.fr _ HNS1.out.nt.Sb))
            exact (HDA.out.below h1).mono (by have := h1.size; omega)
          have HLN : Hid (Calls _ _ _ _ _) := Len_any HNS1.out.nt
          have HSTP : Hid (∀ (P' : PN) (w2 : World), NTh G S1 W1 w2 b P' → Inv P' sl ∧ Grow P P' → NR (i + 1) G w w2 b P u8) := fun P' w2 hT hI => ⟨_, P', sl, HNS1.out.net hGw hT hI.1, hI.2, by have := HSL.out; omega⟩
          have HCC : Hid (∀ w2, Out S1 W1 w2 → (w2.cell? ⟨wr.heap.size, 0, none⟩ = some (.int .i64 kd) ∧ w2.cell? ⟨wr.heap.size, 1, none⟩ = some (.int .i64 oa) ∧ w2.cell? ⟨wr.heap.size, 2, none⟩ = some (.int .i64 ob) ∧ w2.cell? ⟨wr.heap.size, 3, none⟩ = some (.bool up) ∧ w2.cell? ⟨wr.heap.size, 4, none⟩ = some (.slice da d.length dc))) := fun w2 hO => (cells5 (HXX.out w2 hO).1).1
          clear hBa hX1 HNS hW1
          go_wp2_with fail
          rw [HW1.out]
          refine HLN.out.mono ?_
          rintro e w9 ⟨rfl, hw⟩
          subst w9
          obtain ⟨x0, x1, x2, x3, x4⟩ := HCC.out W1 (Out.refl _ _)
          clear HLN HW1 c0 c1 c2 c3 c4
          go_upto_block 2 with fail
          go_cut [8] from 47 to 117 (fun v8 wx => NR (i + 1) G w wx b P v8)
          case first =>
            by_cases h0 : kd = 0
            · subst h0
              -- @ARM k0
              have HSN : Hid (Calls _ _ _ _ _) := Send_any HNS1.out.nt hGz oa ob da d dc (by omega) HSEP.out hk9
              go_wp2_with fail
              refine HSN.out.mono ?_
              rintro e w2 ⟨rfl, hT⟩
              obtain ⟨hX2, hXw2⟩ := HXX.out w2 hT.out
              obtain ⟨⟨y0, y1, y2, y3, y4⟩, -⟩ := cells5 hX2
              cases hsn : P.snd oa ob with
              | false =>
                have HR : Hid (NR (i + 1) G w w2 b P u8) := HSTP.out _ w2 hT (by rw [PN.snd_no hsn]; exact ⟨HNS1.out.inv, .inl ⟨rfl, Nat.le_refl _⟩⟩)
                clear hT hsn
                go_wp2_with fail
                go_meet
                exact HR.out
              | true =>
                obtain ⟨hr2, hsd⟩ := PN.snd_of (d := d) hsn
                obtain ⟨S2, hS2⟩ : ∃ S2, grew S1 W1 w2 = S2 := ⟨_, rfl⟩
                have hI2 : Inv (P.send oa ob d) (sl ++ [(⟨0, oa, ob, none, 0, d, false⟩ : Ml)]) ∧ Grow P (P.send oa ob d) := by
                  rw [hsd]
                  refine HNS1.out.inv.add oa ob d false (fun x hx => List.mem_append_left _ hx) hr2 hk0 ?_
                  exact ⟨_, List.mem_append_right _ (List.mem_singleton.2 rfl), rfl, rfl, .inl ⟨rfl, rfl⟩⟩
                have hsi : ∀ xa xc, Inv (P.send oa ob d) (sl ++ [(⟨0, oa, ob, xa, xc, d, false⟩ : Ml)]) := fun xa xc => by
                  refine ⟨fun m hm => ?_, hI2.1.num, hI2.1.nod⟩
                  obtain ⟨x, hx, r⟩ := hI2.1.org m hm
                  rcases List.mem_append.1 hx with hx | hx
                  · exact ⟨x, List.mem_append_left _ hx, r⟩
                  · obtain rfl := List.mem_singleton.1 hx
                    exact ⟨⟨0, oa, ob, xa, xc, d, false⟩, List.mem_append_right _ (List.mem_singleton.2 rfl), r⟩
                -- the state behind Send, with the row of what was sent as it was
                have hrow2 : MlsOw 41 G w2 u8 sl := HNS1.out.row.out hT.out (fun g hg => HNS1.out.ap1 g hg) (fun e he g hg => HNS1.out.ap2 e he g hg)
                have hbel2 : Below G w w2 := HNS1.out.bel.trans (hT.bel hGz)
                have HQ : Hid (∀ w3 w5 xa xc v', Below w2.heap.size w2 w3 → Ow w2.heap.size w3 (.slice xa d.length xc) d → w5.ownsRow G 41 5 v' (sl.length + 1) (mlCells sl ++ mlCells [(⟨0, oa, ob, xa, xc, d, false⟩ : Ml)]) → (w3.alloc (.cells #[.int .i64 0, .int .i64 oa, .int .i64 ob, .slice xa d.length xc, .bool false] 41)).grownBy w5 u8.ownBlock → (v'.ownBlock = u8.ownBlock ∨ v'.ownBlock = some (w3.alloc (.cells #[.int .i64 0, .int .i64 oa, .int .i64 ob, .slice xa d.length xc, .bool false] 41)).heap.size) → NR (i + 1) G w w5 b P v') := fun w3 w5 xa xc v' hB3 hO3 q1 q2 q3 => by
                  have hst : NS G w w2 b u8 (grew S1 W1 w2) (P.send oa ob d) (sl ++ [(⟨0, oa, ob, xa, xc, d, false⟩ : Ml)]) → True := fun _ => trivial
                  have hns : ∀ (I : Inv (P.send oa ob d) sl), NS G w w2 b u8 (grew S1 W1 w2) (P.send oa ob d) sl := fun I => HNS1.out.net hGw hT I
                  have hz3 := hB3.size
                  have hO5 : Out (fun g => u8.ownBlock = some g) w2 w5 := ((Out.of_below hB3).alloc _).trans (Out.grown q2 (X := fun g => u8.ownBlock = some g) (fun j hj => hj)) (fun _ hi _ => hi)
                  have hr3 := (hrow2.below hB3).alloc (.cells #[.int .i64 0, .int .i64 oa, .int .i64 ob, .slice xa d.length xc, .bool false] 41)
                  have hwz : G ≤ w2.heap.size := by have := hbel2.size; omega
                  have hrow : MlsOw 41 G w5 v' (sl ++ [(⟨0, oa, ob, xa, xc, d, false⟩ : Ml)]) := hr3.app (by decide) (fun x hx => by obtain rfl := List.mem_singleton.1 hx; exact (hO3.base hwz).alloc _) (by simpa using q1) q2
                  have hlt1 : ∀ g, u8.ownBlock = some g → ¬ grew S1 W1 w2 g := fun g hg hs => hs.elim (HNS1.out.ap1 g hg) (fun h' => by have := (HNS1.out.row.lt hg).2; omega)
                  refine ⟨grew S1 W1 w2, P.send oa ob d, sl ++ [(⟨0, oa, ob, xa, xc, d, false⟩ : Ml)], ⟨hT.q.out hO5 (fun g hs hg => hlt1 g hg hs), hrow, fun g hg hs => ?_, fun x hx g hg hs => ?_, ?_, hsi xa xc⟩, hI2.2, by have := HSL.out; simp; omega⟩
                  · rcases q3 with e1 | e1
                    · rw [e1] at hg; exact hlt1 g hg hs
                    · rw [e1] at hg
                      cases hg
                      have h9 := hT.q.inn _ hs
                      rw [World.size_alloc] at h9
                      omega
                  · rcases List.mem_append.1 hx with hx | hx
                    · exact hs.elim (HNS1.out.ap2 x hx g hg) (fun h' => by have := ((HNS1.out.row.dat x hx).lt hg).2; omega)
                    · obtain rfl := List.mem_singleton.1 hx
                      have h8 := (hO3.lt hg).1
                      have h9 := hT.q.inn _ hs
                      omega
                  · exact hbel2.trans (hO5.below hwz (fun g hg => (hrow2.lt hg).1))
                have HBY : Hid (∀ n, Calls Try.prog 17 #[.slice da d.length dc] (w2.drewN n) fun e w' => ∃ v', e = .returned v' ∧ Ow w2.heap.size w' v' d ∧ Below w2.heap.size w2 w') := fun n => by
                  refine (bytes_any G _ d (w2.drewN n) (HDA.out.below (below_drewN hbel2 n)) (by have := hbel2.size; show G ≤ w2.heap.size; omega) (by omega)).mono ?_
                  rintro e w' ⟨v', rfl, q1, q2⟩
                  exact ⟨v', rfl, q1, ⟨q2.os, q2.tape, q2.output, q2.size, q2.block⟩⟩
                have HRX : Hid (∀ w3 xa xc, Below w2.heap.size w2 w3 → Ow w2.heap.size w3 (.slice xa d.length xc) d → (w3.alloc (.cells #[.int .i64 0, .int .i64 oa, .int .i64 ob, .slice xa d.length xc, .bool false] 41)).ownsRow G 41 5 u8 sl.length (mlCells sl) ∧ MlsAt (w3.heap.size + 1) (w3.alloc (.cells #[.int .i64 0, .int .i64 oa, .int .i64 ob, .slice xa d.length xc, .bool false] 41)) (some ⟨w3.heap.size, 0, none⟩) [(⟨0, oa, ob, xa, xc, d, false⟩ : Ml)] ∧ G ≤ (w3.alloc (.cells #[.int .i64 0, .int .i64 oa, .int .i64 ob, .slice xa d.length xc, .bool false] 41)).heap.size) := fun w3 xa xc hB3 hO3 =>
                  ⟨World.ownsRow.alloc (hrow2.below hB3).row _, mls_one 41 w3 ⟨0, oa, ob, xa, xc, d, false⟩ w3.heap.size (hO3.sl (Nat.le_refl _)) (Nat.le_refl _), by have := hB3.size; have := hbel2.size; simp; omega⟩
                have hlen9 : sl.length + 1 ≤ 1000000000 := by have := HSL.out; omega
                have HCW : Hid (∀ w3, Below w2.heap.size w2 w3 → (w3.cell? ⟨wr.heap.size, 1, none⟩ = some (.int .i64 oa) ∧ w3.cell? ⟨wr.heap.size, 2, none⟩ = some (.int .i64 ob) ∧ wr.heap.size < w3.heap.size)) := fun w3 hB3 => ⟨(hB3.cell (p := ⟨wr.heap.size, 1, none⟩) hXw2).trans y1, (hB3.cell (p := ⟨wr.heap.size, 2, none⟩) hXw2).trans y2, Nat.lt_of_lt_of_le hXw2 hB3.size⟩
                clear hT hsn hr2 hsd hS2 hI2 hsi hrow2 hbel2 HSN HSEP HXX HSTP HCC hX2 x0 x1 x2 x3 x4
                go_wp2_with fail
                go_region_law (first
                  | (refine step_append_mls tyM rfl (.tmp 57) (.tmp 66) rfl G (w3.heap.size + 1) u8 (some ⟨w3.heap.size, 0, none⟩) 1 sl [(⟨0, oa, ob, xa, xc, d, false⟩ : Ml)] (by simp [Act.eval]) hrow5 (by simp [Act.eval]) hsl5 hlen9 hG5 ?_; intro v' w5 q1 q2 q3; have HR : Hid (NR _ _ _ _ _ _ _) := HQ.out w3 w5 xa xc v' hB3 hO3 q1 q2 q3; clear q1 q2 q3)
                  | (go_simp; go_at_call 17; refine (HBY.out 1).mono ?_; rintro e w3 ⟨v3, rfl, hO3, hB3⟩; obtain ⟨xa, xc, hsh3, -, -⟩ := hO3.shape; subst hsh3; obtain ⟨hrow5, hsl5, hG5⟩ := HRX.out w3 xa xc hB3 hO3; obtain ⟨e1, e2, e3⟩ := HCW.out w3 hB3)
                  | fail)
                all_goals (go_wp2_with fail; go_meet; exact HR.out)
              -- @FIN k0
            · have h0' : (kd == 0) = false := by simpa using h0
              by_cases h1 : kd = 1
              · subst h1
                -- @ARM k1
                have HCT : Hid (Calls _ _ _ _ _) := Take_any HNS1.out.nt hGz oa
                clear h0
                go_wp2_with fail
                refine HCT.out.mono ?_
                rintro e w2 hTR
                have hRR : NR (i + 1) G w w2 b P u8 ∧ ∃ va vb, e = .returned (.tuple #[va, vb]) := by
                  rcases hTR with ⟨-, he, hT⟩ | ⟨-, m, he, -, hT, -, -⟩
                  · exact ⟨HSTP.out _ w2 hT (HNS1.out.inv.take oa), _, _, he⟩
                  · exact ⟨HSTP.out _ w2 hT (HNS1.out.inv.take oa), _, _, he⟩
                obtain ⟨hR, va, vb, rfl⟩ := hRR
                have HR : Hid (NR (i + 1) G w w2 b P u8) := hR
                clear hTR hR
                go_wp2_with fail
                go_meet
                exact HR.out
                -- @FIN k1
              · have h1' : (kd == 1) = false := by simpa using h1
                by_cases h2 : kd = 2
                · subst h2
                  -- @ARM k2
                  have HCT : Hid (Calls _ _ _ _ _) := Drop_any HNS1.out.nt hGz oa
                  clear h0
                  go_wp2_with fail
                  refine HCT.out.mono ?_
                  rintro e w2 ⟨rfl, hT⟩
                  have HR : Hid (NR (i + 1) G w w2 b P u8) := HSTP.out _ w2 hT (HNS1.out.inv.take oa)
                  clear hT
                  go_wp2_with fail
                  go_meet
                  exact HR.out
                  -- @FIN k2
                · have h2' : (kd == 2) = false := by simpa using h2
                  by_cases h3 : kd = 3
                  · subst h3
                    -- @ARM k3
                    have HCT : Hid (Calls _ _ _ _ _) := Copy_any HNS1.out.nt hGz oa hk9
                    clear h0
                    go_wp2_with fail
                    refine HCT.out.mono ?_
                    rintro e w2 ⟨rfl, hT⟩
                    have HR : Hid (NR (i + 1) G w w2 b P u8) := HSTP.out _ w2 hT (HNS1.out.inv.copy hk0 oa)
                    clear hT
                    go_wp2_with fail
                    go_meet
                    exact HR.out
                    -- @FIN k3
                  · have h3' : (kd == 3) = false := by simpa using h3
                    by_cases h4 : kd = 4
                    · subst h4
                      -- @ARM k4
                      have HCT : Hid (Calls _ _ _ _ _) := Spoil_any HNS1.out.nt hGz oa ob hob63
                      clear h0
                      go_wp2_with fail
                      refine HCT.out.mono ?_
                      rintro e w2 ⟨rfl, hT⟩
                      have HR : Hid (NR (i + 1) G w w2 b P u8) := HSTP.out _ w2 hT (HNS1.out.inv.spoil oa ob)
                      clear hT
                      go_wp2_with fail
                      go_meet
                      exact HR.out
                      -- @FIN k4
                    · have h4' : (kd == 4) = false := by simpa using h4
                      by_cases h5 : kd = 5
                      · subst h5
                        -- @ARM k5
                        have HCT : Hid (Calls _ _ _ _ _) := Move_any HNS1.out.nt hGz oa ob
                        clear h0
                        go_wp2_with fail
                        refine HCT.out.mono ?_
                        rintro e w2 ⟨rfl, hT⟩
                        have HR : Hid (NR (i + 1) G w w2 b P u8) := HSTP.out _ w2 hT (HNS1.out.inv.move oa ob)
                        clear hT
                        go_wp2_with fail
                        go_meet
                        exact HR.out
                        -- @FIN k5
                      · have h5' : (kd == 5) = false := by simpa using h5
                        by_cases h6 : kd = 6
                        · subst h6
                          -- @ARM k6
                          have HCT : Hid (Calls _ _ _ _ _) := Link_any HNS1.out.nt hGz oa ob up
                          clear h0
                          go_wp2_with fail
                          refine HCT.out.mono ?_
                          rintro e w2 ⟨rfl, hT, -⟩
                          have HR : Hid (NR (i + 1) G w w2 b P u8) := HSTP.out _ w2 hT (HNS1.out.inv.link oa ob up)
                          clear hT
                          go_wp2_with fail
                          go_meet
                          exact HR.out
                          -- @FIN k6
                        · have h6' : (kd == 6) = false := by simpa using h6
                          by_cases h7 : kd = 7
                          · subst h7
                            -- @ARM k7
                            have HCT : Hid (Calls _ _ _ _ _) := Clear_any HNS1.out.nt hGz oa
                            clear h0
                            go_wp2_with fail
                            refine HCT.out.mono ?_
                            rintro e w2 ⟨rfl, hT⟩
                            have HR : Hid (NR (i + 1) G w w2 b P u8) := HSTP.out _ w2 hT (HNS1.out.inv.clear oa)
                            clear hT
                            go_wp2_with fail
                            go_meet
                            exact HR.out
                            -- @FIN k7
                          · have h7' : (kd == 7) = false := by simpa using h7
                            -- @ARM k8
                            have HR : Hid (NR (i + 1) G w W1 b P u8) := HSTP.out P W1 (HNS1.out.nt.th hGz (Below.refl _ _)) ⟨HNS1.out.inv, .inl ⟨rfl, Nat.le_refl _⟩⟩
                            clear h0 h1 h2 h3 h4 h5 h6 h7
                            go_wp2_with fail
                            go_meet
                            exact HR.out
                            -- @FIN k8
          case rest =>
            obtain ⟨S2, P2, sl2, hNS2, hGr, hsl2⟩ := hcut
            have HLS : Hid (Calls _ _ _ _ _) := List_any hNS2.nt
            have HN2 : Hid (NS G w wc b u8 S2 P2 sl2) := hNS2
            clear hNS2 x0 x1 x2 x3 x4 HXX HSTP HCC HSEP HNS1
            go_wp2_with fail
            refine HLS.out.mono ?_
            rintro e w3 ⟨v, fs, rfl, hR3, hsy3, hB3⟩
            obtain ⟨fa, fc, rfl, hfc, -⟩ := hR3.shape
            have hfl : fs.length = P2.E.length := by rw [← hsy3]; simp
            have HNS3 : Hid (NS G w w3 b u8 S2 P2 sl2) := HN2.out.below hGw hB3
            have HLN3 : Hid (Calls Try.prog 14 #[.pointer (some ⟨b, 0, none⟩)] w3 fun e w' => e = .returned (.int .i64 (fs.length : Int)) ∧ w' = w3) := by
              have := Len_any HNS3.out.nt
              rw [← hfl] at this
              exact this
            have HAT : Hid (MlsAt w3.heap.size w3 fa fs) := hR3.at
            have hwz : G ≤ w3.heap.size := by have := HNS3.out.bel.size; omega
            obtain ⟨sa, sc, hu8, -, -⟩ := HNS3.out.row.shape
            have HROW : Hid (∀ k, k < fs.length → (1 ≤ (fs.getD k nilMl).n ∧ (fs.getD k nilMl).n ≤ P2.k) ∧ ∀ wx, Below w3.heap.size w3 wx → Calls Try.prog 25 #[.agg #[.int .i64 (fs.getD k nilMl).n, .int .i64 (fs.getD k nilMl).f, .int .i64 (fs.getD k nilMl).t, .slice (fs.getD k nilMl).a (fs.getD k nilMl).d.length (fs.getD k nilMl).c, .bool (fs.getD k nilMl).s], .slice sa sl2.length sc] wx fun e w' => e = .returned (.bool true) ∧ Below wx.heap.size wx w') := fun k hkl => by
              have hmem := getD_mem' hkl
              have hme : (fs.getD k nilMl).says ∈ P2.E := by rw [← hsy3]; exact List.mem_map_of_mem hmem
              refine ⟨HNS3.out.inv.num _ hme, fun wx hBx => ?_⟩
              obtain ⟨i0, hi0, hit⟩ := (HNS3.out.inv.org _ hme).at
              have hrx := HNS3.out.row.below hBx
              rw [hu8] at hrx
              refine comes_any (fs.getD k nilMl) sl2 sa sc wx hrx.at ?_ (by omega) (HNS3.out.nt.ok.dl _ hme) i0 hi0 hit
              exact ((hR3.dat _ hmem).below hBx (Nat.le_refl _)).sl (Nat.le_refl _)
            have HNOD : Hid (∀ j k, j < k → k < fs.length → (fs.getD j nilMl).n ≠ (fs.getD k nilMl).n) := fun j k hjk hkl => by
              have hnod := HNS3.out.inv.nod
              rw [← hsy3, List.map_map] at hnod
              have h1 : (fs.map (mN ∘ Ml.says))[j]? = some (fs.getD j nilMl).n := by
                rw [List.getElem?_map, List.getElem?_eq_getElem (by omega), List.getD_eq_getElem?_getD, List.getElem?_eq_getElem (by omega)]; rfl
              have h2 : (fs.map (mN ∘ Ml.says))[k]? = some (fs.getD k nilMl).n := by
                rw [List.getElem?_map, List.getElem?_eq_getElem (by omega), List.getD_eq_getElem?_getD, List.getElem?_eq_getElem (by omega)]; rfl
              intro e
              rw [← e, ← h1] at h2
              have := (List.getElem?_inj (by simp; omega) hnod).1 h2.symm
              omega
            subst hu8
            rw [hfl] at HLN3 ⊢
            have hPl : P.E.length ≤ 2000 := HP2K.out
            have hPl2 : P2.E.length ≤ 2000 := HNS3.out.nt.ok.row
            have hwr1 : IntKind.i64.wrap ((P.E.length : Int) + 1) = (P.E.length : Int) + 1 := by rw [IntKind.wrap_i64]; omega
            have HFL : Hid (fs.length = P2.E.length) := hfl
            rcases hGr with ⟨gk, gl⟩ | ⟨gk, gl, gn⟩
            · have hnl : ¬ (P.E.length : Int) + 1 < (P2.E.length : Int) := by omega
              have hne : ((P2.E.length : Int) == (P.E.length : Int) + 1) = false := by simp; omega
              have HGK : Hid (P2.k = P.k) := gk
              have hPk2 : P2.k ≤ (i : Int) := by omega
              rw [← gk]
              clear gk hR3 hsy3 hB3 HLS HN2 hfl
              rw [← HFL.out] at HLN3 hnl hne hPl2 ⊢
              clear HFL
              generalize P.E.length = pl at *
              go_wp2_with fail
              refine HLN3.out.mono ?_
              rintro e w9 ⟨rfl, hw⟩
              subst w9
              clear HLN3
              -- @ARM tB
              go_wp2_with fail
              go_loopw [14] (fun kv wx => ∃ k : Nat, kv = .int .i64 (k : Int) ∧ k ≤ fs.length ∧ Below w3.heap.size w3 wx) (fun kv _ => fs.length - (intOf kv).toNat)
              case atStart => exact ⟨0, rfl, Nat.zero_le _, Below.refl _ _⟩
              case round =>
                obtain ⟨k, rfl, hk, hBk⟩ := hrel
                have HBK : Hid (Below w3.heap.size w3 wr) := hBk
                clear hBk
                by_cases hkl : k < fs.length
                · obtain ⟨hm0, hmC⟩ := HROW.out k hkl
                  obtain ⟨g, off, hfa, hg, hcs⟩ := HAT.out.at hkl
                  cases hfa
                  have hcs' := hcs.below hg HBK.out
                  have HCM := hmC wr HBK.out
                  obtain ⟨m, hmm⟩ : ∃ m, fs.getD k nilMl = m := ⟨_, rfl⟩
                  rw [hmm] at hcs' HCM hm0
                  have HMM : Hid (fs.getD k nilMl = m) := hmm
                  obtain ⟨d0, d1, d2, d3, d4, -⟩ := hcs'
                  unfold Ml.x at d3
                  have HCM2 : Hid (Calls _ _ _ _ _) := HCM
                  have k0 : (0 : Int) ≤ (k : Int) := by omega
                  have k1 : (k : Int) < (fs.length : Int) := by omega
                  have hgw : g < wr.heap.size := by have := HBK.out.size; omega
                  have hmn1 : ¬ P2.k < m.n := by omega
                  have hmn2 : ¬ m.n < 1 := by omega
                  clear hcs hmC HCM hmm
                  go_wp2_with fail
                  refine HCM2.out.mono ?_
                  rintro e w5 ⟨rfl, hB5⟩
                  have HB5 : Hid (Below w3.heap.size w3 w5) := HBK.out.trans (hB5.mono HBK.out.size)
                  have f0 := (hB5.cell (p := ⟨g, off + k * 5, none⟩) hgw).trans d0
                  have hgw5 : g < w5.heap.size := Nat.lt_of_lt_of_le hgw hB5.size
                  clear hB5 HCM2 d0 d1 d2 d3 d4
                  go_wp2_with fail
                  go_loopw [16] (fun jv wx => ∃ j n : Nat, jv = .int .i64 (j : Int) ∧ j ≤ k ∧ wx = w5.drewN n) (fun jv _ => k - (intOf jv).toNat)
                  case atStart => exact ⟨0, 0, rfl, Nat.zero_le _, rfl⟩
                  case round =>
                    obtain ⟨j, n, rfl, hj, rfl⟩ := hrel
                    by_cases hjk : j < k
                    · have hjl : j < fs.length := by omega
                      obtain ⟨g', off', hfa', hg', hcs2⟩ := HAT.out.at hjl
                      cases hfa'
                      have hcj := (hcs2.below hg HB5.out).1
                      have hnej : ((fs.getD j nilMl).n == m.n) = false := by
                        have := HNOD.out j k hjk hkl
                        rw [HMM.out] at this
                        simpa using this
                      generalize (fs.getD j nilMl).n = jn at *
                      have j0 : (0 : Int) ≤ (j : Int) := by omega
                      have j1 : (j : Int) < (fs.length : Int) := by omega
                      clear hcs2
                      go_wp2_with fail
                      go_quiet (fail)
                      go_wp2
                      exact ⟨⟨j + 1, n + nq, by go_num, by omega, rfl⟩, by simp [intOf]; omega⟩
                    · have hje : (k : Int) ≤ (j : Int) := by omega
                      have HBE : Hid (Below w3.heap.size w3 (w5.drewN n)) := below_drewN HB5.out n
                      go_wp2
                      exact ⟨⟨k + 1, by go_num, by omega, HBE.out⟩, by simp [intOf]; omega⟩
                · have hke : (fs.length : Int) ≤ (k : Int) := by omega
                  have HFIN : Hid (NS G w wr b (.slice sa sl2.length sc) S2 P2 sl2) := HNS3.out.below hGw HBK.out
                  go_wp2
                  exact ⟨⟨i + 1, S2, P2, sl2, by go_num, rfl, by omega, HFIN.out, hsl2, by omega⟩, by simp [intOf]; omega⟩
              -- @FIN tB
            · have hnl : ¬ (P.E.length : Int) + 1 < (P2.E.length : Int) := by omega
              have hne : ((P2.E.length : Int) == (P.E.length : Int) + 1) = true := by simp; omega
              have hPk2 : P2.k ≤ (i : Int) + 1 := by omega
              have hpl : P.E.length < fs.length := by omega
              obtain ⟨g, off, hfa, hg, hcs⟩ := HAT.out.at hpl
              subst hfa
              have hnum : (fs.getD P.E.length nilMl).n = P2.k := by
                have h1 := ml_says hsy3 P.E.length
                rw [h1] at gn
                have h2 : (fs.getD P.E.length nilMl).n = P.k + 1 := gn
                rw [h2, gk]
              have d0 := hcs.1
              rw [hnum] at d0
              have hnle : ¬ P2.k ≤ P.k := by omega
              have p0 : (0 : Int) ≤ (P.E.length : Int) := by omega
              have p1 : (P.E.length : Int) < (fs.length : Int) := by omega
              clear gk gl gn hR3 hsy3 hB3 HLS HN2 hfl hcs hnum
              rw [← HFL.out] at HLN3 hnl hne hPl2 ⊢
              clear HFL
              generalize P.E.length = pl at *
              go_wp2_with fail
              refine HLN3.out.mono ?_
              rintro e w9 ⟨rfl, hw⟩
              subst w9
              clear HLN3
              -- @ARM tA
              go_wp2_with fail
              go_loopw [14] (fun kv wx => ∃ k : Nat, kv = .int .i64 (k : Int) ∧ k ≤ fs.length ∧ Below w3.heap.size w3 wx) (fun kv _ => fs.length - (intOf kv).toNat)
              case atStart => exact ⟨0, rfl, Nat.zero_le _, Below.refl _ _⟩
              case round =>
                obtain ⟨k, rfl, hk, hBk⟩ := hrel
                have HBK : Hid (Below w3.heap.size w3 wr) := hBk
                clear hBk
                by_cases hkl : k < fs.length
                · obtain ⟨hm0, hmC⟩ := HROW.out k hkl
                  obtain ⟨g, off, hfa, hg, hcs⟩ := HAT.out.at hkl
                  cases hfa
                  have hcs' := hcs.below hg HBK.out
                  have HCM := hmC wr HBK.out
                  obtain ⟨m, hmm⟩ : ∃ m, fs.getD k nilMl = m := ⟨_, rfl⟩
                  rw [hmm] at hcs' HCM hm0
                  have HMM : Hid (fs.getD k nilMl = m) := hmm
                  obtain ⟨d0, d1, d2, d3, d4, -⟩ := hcs'
                  unfold Ml.x at d3
                  have HCM2 : Hid (Calls _ _ _ _ _) := HCM
                  have k0 : (0 : Int) ≤ (k : Int) := by omega
                  have k1 : (k : Int) < (fs.length : Int) := by omega
                  have hgw : g < wr.heap.size := by have := HBK.out.size; omega
                  have hmn1 : ¬ P2.k < m.n := by omega
                  have hmn2 : ¬ m.n < 1 := by omega
                  clear hcs hmC HCM hmm
                  go_wp2_with fail
                  refine HCM2.out.mono ?_
                  rintro e w5 ⟨rfl, hB5⟩
                  have HB5 : Hid (Below w3.heap.size w3 w5) := HBK.out.trans (hB5.mono HBK.out.size)
                  have f0 := (hB5.cell (p := ⟨g, off + k * 5, none⟩) hgw).trans d0
                  have hgw5 : g < w5.heap.size := Nat.lt_of_lt_of_le hgw hB5.size
                  clear hB5 HCM2 d0 d1 d2 d3 d4
                  go_wp2_with fail
                  go_loopw [16] (fun jv wx => ∃ j n : Nat, jv = .int .i64 (j : Int) ∧ j ≤ k ∧ wx = w5.drewN n) (fun jv _ => k - (intOf jv).toNat)
                  case atStart => exact ⟨0, 0, rfl, Nat.zero_le _, rfl⟩
                  case round =>
                    obtain ⟨j, n, rfl, hj, rfl⟩ := hrel
                    by_cases hjk : j < k
                    · have hjl : j < fs.length := by omega
                      obtain ⟨g', off', hfa', hg', hcs2⟩ := HAT.out.at hjl
                      cases hfa'
                      have hcj := (hcs2.below hg HB5.out).1
                      have hnej : ((fs.getD j nilMl).n == m.n) = false := by
                        have := HNOD.out j k hjk hkl
                        rw [HMM.out] at this
                        simpa using this
                      generalize (fs.getD j nilMl).n = jn at *
                      have j0 : (0 : Int) ≤ (j : Int) := by omega
                      have j1 : (j : Int) < (fs.length : Int) := by omega
                      clear hcs2
                      go_wp2_with fail
                      go_quiet (fail)
                      go_wp2
                      exact ⟨⟨j + 1, n + nq, by go_num, by omega, rfl⟩, by simp [intOf]; omega⟩
                    · have hje : (k : Int) ≤ (j : Int) := by omega
                      have HBE : Hid (Below w3.heap.size w3 (w5.drewN n)) := below_drewN HB5.out n
                      go_wp2
                      exact ⟨⟨k + 1, by go_num, by omega, HBE.out⟩, by simp [intOf]; omega⟩
                · have hke : (fs.length : Int) ≤ (k : Int) := by omega
                  have HFIN : Hid (NS G w wr b (.slice sa sl2.length sc) S2 P2 sl2) := HNS3.out.below hGw HBK.out
                  go_wp2
                  exact ⟨⟨i + 1, S2, P2, sl2, by go_num, rfl, by omega, HFIN.out, hsl2, by omega⟩, by simp [intOf]; omega⟩
              -- @FIN tA
        · have hie : (l.length : Int) ≤ (i : Int) := by omega
          have HBF : Hid (Below w.heap.size w wr) := by show Below _ _ _; rw [HG.out]; exact HNS.out.bel
          clear HNS
          go_wp2
          go_ret
          exact ⟨rfl, HBF.out⟩
  · refine (New_no nodes hn w1).mono ?_
    rintro e w3 ⟨rfl, hw⟩
    subst w3
    clear hn
    cases t with
    | false =>
      go_wp2
      go_ret
      exact ⟨rfl, HB1.out⟩
    | true =>
      go_wp2
      go_ret
      exact ⟨rfl, HB1.out⟩
end Go.Proofs.Ytefbfjlmhfmiiaa
