/-
  LaneFair: the walk of the law.
-/
import Derived.Test.YthaoobfldponpaaLg
namespace Go.Proofs.Ythaoobfldponpaa
open Go.RowKit
set_option linter.unusedVariables false

/-- How many things the first k lanes hold, each. -/
def hadL (ls : Nat → List Int) (k : Nat) : List Int := (List.range k).map (fun j => ((ls j).length : Int))
theorem hadL_len (ls : Nat → List Int) (k : Nat) : (hadL ls k).length = k := by simp [hadL]
theorem hadL_at {ls : Nat → List Int} {k j : Nat} (h : j < k) : (hadL ls k)[j]?.getD 0 = ((ls j).length : Int) := by simp [hadL, h]
theorem hadL_succ (ls : Nat → List Int) (k : Nat) : hadL ls (k + 1) = hadL ls k ++ [((ls k).length : Int)] := by simp [hadL, List.range_succ]
theorem putL_ne {R : Nat} {l : List Int} {x : Int} (h : l ≠ []) : putL R l x ≠ [] := by
  unfold putL
  split
  · simp
  · exact h

set_option maxRecDepth 100000 in
set_option maxHeartbeats 20000000 in
theorem laneFair_walk (lanes : Int) (hr0 : In64 lanes) (a : Option Addr) (ca : Nat) (l : List Opn) (w : World) (hl : OpsAt w.heap.size w a l) (hll : l.length ≤ 9223372036854775807) :
    Calls Try.prog 7 #[.int .i64 lanes, .slice a l.length ca] w fun e w' => e = .returned (.bool true) ∧ Below w.heap.size w w' := by
  obtain ⟨x0, y0, n, h1, h2, h3, h4, hn1, hn8, -⟩ := small 8 (by omega) (by omega) lanes hr0
  have g1 : lanes.tmod 8 = x0 := h1
  have g2 : IntKind.i64.wrap (x0 + 8) = x0 + 8 := h2
  have g3 : (x0 + 8).tmod 8 = y0 := h3
  have HL : Hid (OpsAt w.heap.size w a l) := hl
  clear hl h1 h2 h3 hr0 hll
  go_enter Try.func7, Try.ntmps7
  go_wp2_with fail
  refine (first_any w).mono ?_
  rintro e w1 ⟨rfl, hB1⟩
  have HB1 : Hid (Below w.heap.size w w1) := hB1
  clear hB1
  by_cases hlen : 400 < l.length
  · have hg : decide ((400 : Int) < (l.length : Int)) = true := by simp; omega
    clear hlen
    go_wp2
    go_ret
    exact ⟨rfl, HB1.out⟩
  have hg : decide ((400 : Int) < (l.length : Int)) = false := by simp; omega
  go_wp2_with fail
  refine (newLanes_any w.heap.size n 64 w1 HB1.out.size hn1 (by omega) (by omega) (by omega)).mono ?_
  rintro e w2 ⟨rfl, hl2, hB2⟩
  have HL2 : Hid (La w.heap.size (fun i => w1.heap.size ≤ i ∧ i < w1.heap.size + (n + 2)) w2 (w1.heap.size + 1 + n) n 64 0 (fun _ => [])) := hl2
  have HB2 : Hid (Below w.heap.size w w2) := HB1.out.trans (hB2.mono HB1.out.size)
  clear hl2 hB2 HB1 g1 g2 g3 h4
  obtain ⟨d, HD⟩ : ∃ d, Hid (w1.heap.size + 1 + n = d) := ⟨_, rfl⟩
  rw [HD.out] at HL2 ⊢
  obtain ⟨cs0, hmk, hmx⟩ := run_mx w.heap.size n (by omega) w2 HB2.out.size
  have HTM : Hid (Tm w2 n 0 (w2.alloc (.cells cs0 26))) := by
    obtain ⟨cs, hc, hcn, -⟩ := hmx.hm
    exact ⟨.inr trivial, (Below.refl _ _).alloc (Nat.le_refl _) _, by simp, ⟨cs, hc, hcn, fun j hj => by omega⟩, fun j hj => by omega⟩
  clear hmx HD
  go_wp2
  go_loopw [8] (fun iv wr => ∃ k : Nat, iv = .int .i64 (k : Int) ∧ k ≤ n ∧ Tm w2 n k wr) (fun iv _ => n - (intOf iv).toNat)
  case atStart => exact ⟨0, rfl, Nat.zero_le _, by simpa using HTM.out⟩
  case round =>
    obtain ⟨k, rfl, hk, hT⟩ := hrel
    have HT : Hid (Tm w2 n k wr) := hT
    clear hT HTM
    generalize wr = wq at *
    by_cases hkn : k < n
    · have hkn' : (k : Int) < (n : Int) := by omega
      obtain ⟨cs1, q1, q2, hmk2⟩ := run_row n (by omega) wq
      have HS : Hid (Tm w2 n (k + 1) ((wq.alloc (.cells cs1 3)).setCell ⟨w2.heap.size, k, none⟩ (.slice (some ⟨wq.heap.size, 0, none⟩) n n))) := HT.out.step hkn q1 q2
      obtain ⟨hfz, u, hcu⟩ : (wq.alloc (.cells cs1 3)).frozen? ⟨w2.heap.size, k, none⟩ = false ∧ ∃ u, (wq.alloc (.cells cs1 3)).cell? ⟨w2.heap.size, k, none⟩ = some u := by
        obtain ⟨cs, hc, hn', -⟩ := HT.out.hc
        have hlt : w2.heap.size < wq.heap.size := by rw [HT.out.sz]; omega
        have hB1 : Below wq.heap.size wq (wq.alloc (.cells cs1 3)) := (Below.refl _ _).alloc (Nat.le_refl _) _
        have hc1 := (hB1.block _ hlt).trans hc
        refine ⟨?_, cs[k]'(by omega), ?_⟩
        · simp only [World.frozen?, hc1]; simp
        · simp only [World.cell?, hc1]
          exact Array.getElem?_eq_getElem (by omega)
      clear q1 q2
      go_wp2
      exact ⟨⟨k + 1, by go_num, by omega, by simpa using HS.out⟩, by simp [intOf]; omega⟩
    · have hkn' : decide ((k : Int) < (n : Int)) = false := by simp; omega
      obtain rfl : k = n := by omega
      have HTB : Hid (Tb w.heap.size (fun i => w2.heap.size ≤ i ∧ i < w2.heap.size + 1 + k) wq w2.heap.size k (fun i => w2.heap.size + 1 + i) (fun _ _ => 0)) := HT.out.tb HB2.out.size
      have HLT0 : Hid (LT w.heap.size (fun i => w1.heap.size ≤ i ∧ i < w1.heap.size + (k + 2)) (fun i => w2.heap.size ≤ i ∧ i < w2.heap.size + 1 + k) wq d w2.heap.size k 64 0 (fun i => w2.heap.size + 1 + i) (fun _ => []) (fun _ _ => 0)) :=
        ⟨La.below HL2.out HT.out.os, HTB.out, fun i h1 h2 => by have := La.inn HL2.out i h1; omega⟩
      have HB3 : Hid (Below w.heap.size w wq) := HB2.out.trans (HT.out.os.mono HB2.out.size)
      clear HTB HT HL2 HB2 hmk
      generalize hgs : (fun i => w2.heap.size + 1 + i) = gs at *
      generalize hmm : w2.heap.size = m at *
      clear hgs hmm
      go_wp2
      go_loopw [9] (fun iv wr => ∃ (i nx : Nat) (S S' : Nat → Prop) (ls : Nat → List Int) (wt : Nat → Nat → Nat), iv = .int .i64 (i : Int) ∧ i ≤ l.length ∧ LT w.heap.size S S' wr d m k 64 nx gs ls wt ∧ FI k nx ls wt ∧ Below w.heap.size w wr) (fun iv _ => l.length - (intOf iv).toNat)
      case atStart => exact ⟨0, 0, _, _, _, _, rfl, Nat.zero_le _, HLT0.out, FI.start _ _ _, HB3.out⟩
      case round =>
        obtain ⟨i, nx, S, S', ls, wt, rfl, hi, hLT, hFI, hB⟩ := hrel
        have HT0 : Hid (LT w.heap.size S S' wr d m k 64 nx gs ls wt) := hLT
        have HF0 : Hid (FI k nx ls wt) := hFI
        have HB0 : Hid (Below w.heap.size w wr) := hB
        have HNUM : Hid _ := hLT.la.nums
        clear hLT hFI hB HLT0 HB3
        generalize wr = wp at *
        by_cases hnl : l.length ≤ i
        · have hil' : decide ((i : Int) < (l.length : Int)) = false := by simp; omega
          go_wp2
          go_ret
          exact ⟨rfl, HB0.out⟩
        have hil : i < l.length := by omega
        have hil' : (i : Int) < (l.length : Int) := by omega
        obtain ⟨b0, o0, rfl, hb0, ho0⟩ := HL.out.at hil
        have HO : Hid (OpAt w b0 (o0 + i * 3) (l.getD i nilOp)) := ho0
        generalize l.getD i nilOp = op at *
        obtain ⟨kd0, n0, ln0⟩ := op
        clear ho0
        obtain ⟨⟨e0, -, e2⟩, -⟩ := HO.out.below hb0 HB0.out
        simp only at e0 e2
        by_cases hkd : kd0 = 0
        · subst hkd
          obtain ⟨x2, J, q1, q2, q3, hJ⟩ := laneOf k hn1 (by omega) ln0
          have hnz : ((k : Int) == 0) = false := by simp; omega
          have hpt := lput_any HT0.out.la HB0.out.size J hJ (i : Int)
          go_wp2_with fail
          refine hpt.mono ?_
          rintro e w4 ⟨rfl, t4⟩
          have HT4 : Hid _ := HT0.out.one t4
          have HB4 : Hid (Below w.heap.size w w4) := HB0.out.trans (t4.bel HB0.out.size)
          have HF4 : Hid (FI k nx (upd ls J (putL 64 (ls J) (i : Int))) wt) := HF0.out.put (fun b hb hne => by
            by_cases e : b = J
            · subst e; rw [upd_at]; exact putL_ne hne
            · rw [upd_ne _ _ _ e]; exact hne)
          clear t4 hpt e0 e2 q1 q2 q3 HT0 HB0
          go_wp2
          exact ⟨⟨i + 1, nx, _, _, _, _, by go_num, by omega, HT4.out, HF4.out, HB4.out⟩, by simp [intOf]; omega⟩
        · have hkd1 : (kd0 == 0) = false := by simpa using hkd
          clear hkd
          go_wp2
          go_loopw [10, 11] (fun hv kv wr => ∃ (j hc : Nat) (ha : Option Addr), kv = .int .i64 (j : Int) ∧ j ≤ k ∧ hv = .slice ha (hadL ls j).length hc ∧ Ow wp.heap.size wr (.slice ha (hadL ls j).length hc) (hadL ls j) ∧ Below wp.heap.size wp wr) (fun _ kv _ => k - (intOf kv).toNat)
          case atStart => exact ⟨0, 0, none, rfl, Nat.zero_le _, rfl, Ow.nil _ _, Below.refl _ _⟩
          case round =>
            obtain ⟨j, hc, ha, rfl, hj, rfl, ho, hBj⟩ := hrel
            have HOW : Hid (Ow wp.heap.size wr (.slice ha (hadL ls j).length hc) (hadL ls j)) := ho
            have HBJ : Hid (Below wp.heap.size wp wr) := hBj
            clear ho hBj
            generalize wr = wj at *
            by_cases hjk : j < k
            · have hjk' : (j : Int) < (k : Int) := by omega
              have hlj : (ls j).length ≤ 64 := by have := HNUM.out.2 j hjk; omega
              go_wp2_with fail
              refine (litems_any (HT0.out.below HBJ.out).la j hjk).mono ?_
              rintro e w5 ⟨v5, rfl, h5, hB5⟩
              obtain ⟨a5, c5, rfl, -, -⟩ := h5.shape
              have hO5 : Ow wp.heap.size (w5.alloc (.cells #[.int .i64 ((ls j).length : Int)] 3)) (.slice ha (hadL ls j).length hc) (hadL ls j) := (HOW.out.below hB5 (Nat.le_refl _)).alloc _
              have hB5' : Below wp.heap.size wp w5 := HBJ.out.trans (hB5.mono HBJ.out.size)
              have hsl := sl_one w5 ((ls j).length : Int)
              have hln : (hadL ls j).length + [((ls j).length : Int)].length ≤ 1099511627776 := by rw [hadL_len]; simp; omega
              have HOA : Hid _ := hO5
              have HB5 : Hid (Below wp.heap.size wp w5) := hB5'
              have HSUC : Hid (hadL ls (j + 1) = hadL ls j ++ [((ls j).length : Int)]) := hadL_succ ls j
              clear h5 hB5 hO5 hB5'
              generalize hLj : ((ls j).length : Int) = lj at *
              go_wp2_with (at_builtin; refine wpList_append_ow rfl _ _ rfl wp.heap.size _ _ _ (hadL ls j) [lj] rfl HOA.out rfl hsl hln (by have := HB5.out.size; simp; omega) ?_; intro v' w6 g1 g2 g3; rw [← HSUC.out] at g1; have B6 : Below wp.heap.size wp w6 := (HB5.out.alloc HB5.out.size (.cells #[.int .i64 lj] 3)).grown g2 (by have := HB5.out.size; simp; omega) (fun k e => (Ow.lt HOA.out e).1); obtain ⟨a6, c6, rfl, -, -⟩ := Ow.shape g1; have HG1 : Hid (Ow wp.heap.size w6 (.slice a6 (hadL ls (j + 1)).length c6) (hadL ls (j + 1))) := g1; have HB6 : Hid (Below wp.heap.size wp w6) := B6; clear g1 g2 g3 B6)
              exact ⟨⟨j + 1, c6, a6, by go_num, by omega, rfl, HG1.out, HB6.out⟩, by simp [intOf]; omega⟩
            · have hjk' : decide ((j : Int) < (k : Int)) = false := by simp; omega
              obtain rfl : j = k := by omega
              have HLEN : Hid ((hadL ls j).length = j) := hadL_len ls j
              rw [HLEN.out] at HOW ⊢
              have HTJ : Hid (LT w.heap.size S S' wj d m j 64 nx gs ls wt) := HT0.out.below HBJ.out
              have HBW : Hid (Below w.heap.size w wj) := HB0.out.trans (HBJ.out.mono HB0.out.size)
              by_cases hall : ∀ x, x < j → ls x = []
              · have htk := ltake_none HTJ.out.la HBW.out.size hall
                go_wp2_with fail
                refine htk.mono ?_
                rintro e w4 ⟨rfl, t4⟩
                have HT4 : Hid _ := HTJ.out.one t4
                have HB4 : Hid (Below w.heap.size w w4) := HBW.out.trans (t4.bel HBW.out.size)
                clear t4 htk
                go_wp2
                exact ⟨⟨i + 1, nx, _, _, _, _, by go_num, by omega, HT4.out, HF0.out, HB4.out⟩, by simp [intOf]; omega⟩
              · obtain ⟨mm, hmm, hz, hne⟩ := pick_some HNUM.out.1.2.2 hall
                obtain ⟨J, HJ⟩ : ∃ J, Hid ((nx + mm) % j = J) := ⟨_, rfl⟩
                have hJ : J < j := by rw [← HJ.out]; exact Nat.mod_lt _ (by omega)
                rw [HJ.out] at hne
                obtain ⟨x, t, hxt⟩ : ∃ x t, ls J = x :: t := by
                  cases h : ls J with
                  | nil => exact absurd h hne
                  | cons x t => exact ⟨x, t, rfl⟩
                have htk := ltake_any HTJ.out.la HBW.out.size mm hmm hz x t (by rw [HJ.out]; exact hxt)
                rw [HJ.out] at htk
                have HF5 : Hid (FI j (J + 1) (upd ls J t) (wtake ls J wt)) := by
                  have := HF0.out.take hn1 hmm hz t
                  rw [HJ.out] at this
                  exact this
                have HZR : Hid (∀ b, b < j → ls b ≠ [] → wt J b = 0) := fun b hb hnb => by
                  have := HF0.out.zero hn1 hmm hz hb hnb
                  rw [HJ.out] at this
                  exact this
                have HIDL : Hid (∀ b c, b < j → c < j → ls c = [] → wt b c = 0) := fun b c hb hc he => HF0.out.idle hb hc he
                have hlJ : ((ls J).length : Int) ≠ 0 := by rw [hxt]; simp; omega
                have HLJ : Hid (((ls J).length : Int) ≠ 0) := hlJ
                clear hz hne hall hmm hxt hlJ
                go_wp2_with fail
                refine htk.mono ?_
                rintro e w4 ⟨rfl, t4⟩
                have HT4 : Hid (LT w.heap.size (grew S wj w4) S' w4 d m j 64 (J + 1) gs (upd ls J t) wt) := HTJ.out.one t4
                have HB4 : Hid (Below w.heap.size w w4) := HBW.out.trans (t4.bel HBW.out.size)
                have HSG : Hid (∀ b, b < j → gs b < wp.heap.size) := fun b hb => HT0.out.tb.inn _ (HT0.out.tb.Sg b hb)
                obtain ⟨gh, hgh, hhad⟩ : ∃ gh, (ha = some ⟨gh, 0, none⟩ ∧ wp.heap.size ≤ gh) ∧ ∀ b, b < j → w4.cell? ⟨gh, b, none⟩ = some (.int .i64 ((ls b).length : Int)) := by
                  have ho4 : Ow wp.heap.size w4 (.slice ha j hc) (hadL ls j) := Ow.out HOW.out t4.out (fun g hg hs => by have h1 := (Ow.lt HOW.out hg).1; have h2 := HT0.out.la.inn _ hs; omega)
                  obtain ⟨gh, c, hv, hgN, hcell, -⟩ := ho4.at0 (by rw [HLEN.out]; omega)
                  rw [HLEN.out] at hv hcell
                  cases hv
                  exact ⟨gh, ⟨rfl, hgN⟩, fun b hb => by rw [hcell b hb, hadL_at hb]⟩
                obtain ⟨rfl, hghN⟩ := hgh
                have HHAD : Hid (∀ b, b < j → w4.cell? ⟨gh, b, none⟩ = some (.int .i64 ((ls b).length : Int))) := hhad
                have HGN : Hid (wp.heap.size ≤ gh) := hghN
                have hcJ := hhad J hJ
                have hJn : (J : Int) < (j : Int) := by omega
                have hlz : ((((ls J).length : Nat) : Int) == 0) = false := by simpa using HLJ.out
                generalize hLJ : (ls J).length = LJ at hcJ hlz
                clear t4 htk hhad hghN hLJ HTJ HBW HT0 HB0 HBJ HOW
                go_wp2
                go_loopw [15] (fun bv wr => ∃ b : Nat, bv = .int .i64 (b : Int) ∧ b ≤ j ∧ LT w.heap.size (grew S wj w4) S' wr d m j 64 (J + 1) gs (upd ls J t) (wk ls J b wt) ∧ (∀ b, b < j → wr.cell? ⟨gh, b, none⟩ = some (.int .i64 ((ls b).length : Int))) ∧ Below w.heap.size w wr) (fun bv _ => j - (intOf bv).toNat)
                case atStart => exact ⟨0, rfl, Nat.zero_le _, by rw [wk_zero]; exact HT4.out, HHAD.out, HB4.out⟩
                case round =>
                  obtain ⟨b, rfl, hb, hLT, hhad, hBb⟩ := hrel
                  have HTb : Hid (LT w.heap.size (grew S wj w4) S' wr d m j 64 (J + 1) gs (upd ls J t) (wk ls J b wt)) := hLT
                  have HHb : Hid (∀ b, b < j → wr.cell? ⟨gh, b, none⟩ = some (.int .i64 ((ls b).length : Int))) := hhad
                  have HBb : Hid (Below w.heap.size w wr) := hBb
                  clear hLT hhad hBb HT4 HHAD HB4 hcJ
                  generalize wr = wb at *
                  by_cases hbj : b < j
                  · have hbj' : (b : Int) < (j : Int) := by omega
                    obtain ⟨r1, r2, r3⟩ := HTb.out.tb.cell hbj hJ
                    have HT1 : Hid (LT w.heap.size (grew S wj w4) S' (wb.setCell ⟨gs b, J, none⟩ (.int .i64 0)) d m j 64 (J + 1) gs (upd ls J t) (upd2 (wk ls J b wt) b J 0)) := HTb.out.set hbj hJ 0
                    have HO1 : Hid (Out (fun g => g = gs b) wb (wb.setCell ⟨gs b, J, none⟩ (.int .i64 0))) := Out.set rfl
                    have HH1 : Hid (∀ x, x < j → (wb.setCell ⟨gs b, J, none⟩ (.int .i64 0)).cell? ⟨gh, x, none⟩ = some (.int .i64 ((ls x).length : Int))) := fun x hx => by
                      have hne : gh ≠ gs b := by have := HSG.out b hbj; have := HGN.out; omega
                      have hlt : gh < wb.heap.size := World.block_lt_of_cell? wb ⟨gh, x, none⟩ (HHb.out x hx)
                      exact (World.cell?_of_block (a := ⟨gh, x, none⟩) (HO1.out.block gh hlt hne)).trans (HHb.out x hx)
                    have HB1 : Hid (Below w.heap.size w (wb.setCell ⟨gs b, J, none⟩ (.int .i64 0))) := HBb.out.trans (HO1.out.below HBb.out.size (fun g hg => by rw [hg]; exact HTb.out.tb.fr _ (HTb.out.tb.Sg b hbj)))
                    by_cases hbJ : b = J
                    · subst hbJ
                      have HW : Hid (upd2 (wk ls b b wt) b b 0 = wk ls b (b + 1) wt) := wk_skip (.inl rfl)
                      go_wp2
                      exact ⟨⟨b + 1, by go_num, by omega, by rw [← HW.out]; exact HT1.out, HH1.out, HB1.out⟩, by simp [intOf]; omega⟩
                    · have hbJ' : ((b : Int) != (J : Int)) = true := by simp; omega
                      obtain ⟨s1, s2, s3⟩ := HT1.out.tb.cell hJ hbj
                      rw [wk_at hbJ] at s2
                      have hc1 := HH1.out b hbj
                      have hJn2 : (J : Int) < (j : Int) := by omega
                      by_cases hlb : (ls b).length = 0
                      · have hE : ls b = [] := List.length_eq_zero_iff.1 hlb
                        have HW : Hid (upd2 (wk ls J b wt) b J 0 = wk ls J (b + 1) wt) := wk_skip (.inr hE)
                        rw [HIDL.out J b hJ hbj hE] at s2
                        rw [hlb] at hc1
                        clear hE hlb
                        go_wp2
                        exact ⟨⟨b + 1, by go_num, by omega, by rw [← HW.out]; exact HT1.out, HH1.out, HB1.out⟩, by simp [intOf]; omega⟩
                      · have hE : ls b ≠ [] := fun e => hlb (by rw [e]; rfl)
                        have h0 := HZR.out b hbj hE
                        have HW : Hid (upd2 (upd2 (wk ls J b wt) b J 0) J b 1 = wk ls J (b + 1) wt) := wk_row hbJ hE h0
                        rw [h0] at s2
                        have hpos : 0 < (ls b).length := by omega
                        generalize (ls b).length = Lb at hc1 hpos
                        have HT2 : Hid (LT w.heap.size (grew S wj w4) S' ((wb.setCell ⟨gs b, J, none⟩ (.int .i64 0)).setCell ⟨gs J, b, none⟩ (.int .i64 1)) d m j 64 (J + 1) gs (upd ls J t) (upd2 (upd2 (wk ls J b wt) b J 0) J b 1)) := HT1.out.set hJ hbj 1
                        obtain ⟨u1, u2, -⟩ := HT2.out.tb.cell hJ hbj
                        have e9 : upd2 (upd2 (wk ls J b wt) b J 0) J b 1 J b = 1 := by simp [upd2]
                        rw [e9] at u2
                        have HO2 : Hid (Out (fun g => g = gs J) (wb.setCell ⟨gs b, J, none⟩ (.int .i64 0)) ((wb.setCell ⟨gs b, J, none⟩ (.int .i64 0)).setCell ⟨gs J, b, none⟩ (.int .i64 1))) := Out.set rfl
                        have HH2 : Hid (∀ x, x < j → ((wb.setCell ⟨gs b, J, none⟩ (.int .i64 0)).setCell ⟨gs J, b, none⟩ (.int .i64 1)).cell? ⟨gh, x, none⟩ = some (.int .i64 ((ls x).length : Int))) := fun x hx => by
                          have hne : gh ≠ gs J := by have := HSG.out J hJ; have := HGN.out; omega
                          have hlt := World.block_lt_of_cell? _ ⟨gh, x, none⟩ (HH1.out x hx)
                          exact (World.cell?_of_block (a := ⟨gh, x, none⟩) (HO2.out.block gh hlt hne)).trans (HH1.out x hx)
                        have HB2 : Hid (Below w.heap.size w ((wb.setCell ⟨gs b, J, none⟩ (.int .i64 0)).setCell ⟨gs J, b, none⟩ (.int .i64 1))) := HB1.out.trans (HO2.out.below HB1.out.size (fun g hg => by rw [hg]; exact HTb.out.tb.fr _ (HTb.out.tb.Sg J hJ)))
                        clear h0 e9 hlb hE
                        go_wp2
                        exact ⟨⟨b + 1, by go_num, by omega, by rw [← HW.out]; exact HT2.out, HH2.out, HB2.out⟩, by simp [intOf]; omega⟩
                  · have hbj' : decide ((b : Int) < (j : Int)) = false := by simp; omega
                    obtain rfl : b = j := by omega
                    have HT5 : Hid (LT w.heap.size (grew S wj w4) S' wb d m b 64 (J + 1) gs (upd ls J t) (wtake ls J wt)) := HTb.out.same (wk_end HZR.out)
                    clear HTb
                    go_wp2
                    go_loopw [16] (fun bv wr => ∃ x : Nat, bv = .int .i64 (x : Int) ∧ x ≤ b ∧ LT w.heap.size (grew S wj w4) S' wr d m b 64 (J + 1) gs (upd ls J t) (wtake ls J wt) ∧ (∀ x, x < b → wr.cell? ⟨gh, x, none⟩ = some (.int .i64 ((ls x).length : Int))) ∧ Below w.heap.size w wr) (fun bv _ => b - (intOf bv).toNat)
                    case atStart => exact ⟨0, rfl, Nat.zero_le _, HT5.out, HHb.out, HBb.out⟩
                    case round =>
                      obtain ⟨p, rfl, hp, hLT, hhad, hBp⟩ := hrel
                      have HTp : Hid (LT w.heap.size (grew S wj w4) S' wr d m b 64 (J + 1) gs (upd ls J t) (wtake ls J wt)) := hLT
                      have HHp : Hid (∀ x, x < b → wr.cell? ⟨gh, x, none⟩ = some (.int .i64 ((ls x).length : Int))) := hhad
                      have HBp : Hid (Below w.heap.size w wr) := hBp
                      clear hLT hhad hBp HT5 HHb HBb
                      generalize wr = wo at *
                      by_cases hpb : p < b
                      · have hpb' : (p : Int) < (b : Int) := by omega
                        go_wp2
                        go_loopw [17] (fun cv wr => ∃ x : Nat, cv = .int .i64 (x : Int) ∧ x ≤ b ∧ LT w.heap.size (grew S wj w4) S' wr d m b 64 (J + 1) gs (upd ls J t) (wtake ls J wt) ∧ (∀ x, x < b → wr.cell? ⟨gh, x, none⟩ = some (.int .i64 ((ls x).length : Int))) ∧ Below w.heap.size w wr) (fun cv _ => b - (intOf cv).toNat)
                        case atStart => exact ⟨0, rfl, Nat.zero_le _, HTp.out, HHp.out, HBp.out⟩
                        case round =>
                          obtain ⟨c, rfl, hc', hLT, hhad, hBc⟩ := hrel
                          have HTc : Hid (LT w.heap.size (grew S wj w4) S' wr d m b 64 (J + 1) gs (upd ls J t) (wtake ls J wt)) := hLT
                          have HHc : Hid (∀ x, x < b → wr.cell? ⟨gh, x, none⟩ = some (.int .i64 ((ls x).length : Int))) := hhad
                          have HBc : Hid (Below w.heap.size w wr) := hBc
                          clear hLT hhad hBc HTp HHp HBp
                          by_cases hcb : c < b
                          · have hcb' : (c : Int) < (b : Int) := by omega
                            have hcc := HHc.out c hcb
                            by_cases hlc : (ls c).length = 0
                            · have hE : ls c = [] := List.length_eq_zero_iff.1 hlc
                              obtain ⟨r1, r2, r3⟩ := HTc.out.tb.cell hpb hcb
                              have HT1 : Hid (LT w.heap.size (grew S wj w4) S' (wr.setCell ⟨gs p, c, none⟩ (.int .i64 0)) d m b 64 (J + 1) gs (upd ls J t) (wtake ls J wt)) := by
                                refine (HTc.out.set hpb hcb 0).same (fun x y hx hy => ?_)
                                unfold upd2
                                by_cases e : x = p ∧ y = c
                                · rw [if_pos e, e.1, e.2]
                                  unfold wtake
                                  split
                                  · rfl
                                  · rw [if_neg (fun h => h.2 hE), HIDL.out p c hpb hcb hE]
                                · rw [if_neg e]
                              have HO1 : Hid (Out (fun g => g = gs p) wr (wr.setCell ⟨gs p, c, none⟩ (.int .i64 0))) := Out.set rfl
                              have HH1 : Hid (∀ x, x < b → (wr.setCell ⟨gs p, c, none⟩ (.int .i64 0)).cell? ⟨gh, x, none⟩ = some (.int .i64 ((ls x).length : Int))) := fun x hx => by
                                have hne : gh ≠ gs p := by have := HSG.out p hpb; have := HGN.out; omega
                                have hlt : gh < wr.heap.size := World.block_lt_of_cell? wr ⟨gh, x, none⟩ (HHc.out x hx)
                                exact (World.cell?_of_block (a := ⟨gh, x, none⟩) (HO1.out.block gh hlt hne)).trans (HHc.out x hx)
                              have HB1 : Hid (Below w.heap.size w (wr.setCell ⟨gs p, c, none⟩ (.int .i64 0))) := HBc.out.trans (HO1.out.below HBc.out.size (fun g hg => by rw [hg]; exact HTc.out.tb.fr _ (HTc.out.tb.Sg p hpb)))
                              rw [hlc] at hcc
                              clear hE hlc
                              go_wp2
                              exact ⟨⟨c + 1, by go_num, by omega, HT1.out, HH1.out, HB1.out⟩, by simp [intOf]; omega⟩
                            · have hlz2 : ((((ls c).length : Nat) : Int) == 0) = false := by
                                have : ((ls c).length : Int) ≠ 0 := by omega
                                simpa using this
                              generalize (ls c).length = Lc at hcc hlz2
                              clear hlc
                              go_wp2
                              exact ⟨⟨c + 1, by go_num, by omega, HTc.out, HHc.out, HBc.out⟩, by simp [intOf]; omega⟩
                          · have hcb' : decide ((c : Int) < (b : Int)) = false := by simp; omega
                            go_wp2
                            exact ⟨⟨p + 1, by go_num, by omega, HTc.out, HHc.out, HBc.out⟩, by simp [intOf]; omega⟩
                      · have hpb' : decide ((p : Int) < (b : Int)) = false := by simp; omega
                        go_wp2
                        exact ⟨⟨i + 1, J + 1, _, _, _, _, by go_num, by omega, HTp.out, HF5.out, HBp.out⟩, by simp [intOf]; omega⟩

end Go.Proofs.Ythaoobfldponpaa
