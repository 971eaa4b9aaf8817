/-
  NetOrder: the law.
-/
import Derived.Test.YtefbfjlmhfmiiaaOd
namespace Go.Proofs.Ytefbfjlmhfmiiaa
open Go.RowKit
set_option linter.unusedVariables false

set_option maxRecDepth 100000 in
set_option maxHeartbeats 8000000 in
theorem order_walk (nodes : Int) (a : Option Addr) (c : Nat) (l : List Opn) (w : World) (h : OpsAt w.heap.size w a l) (hl : l.length ≤ 9223372036854775807) (hin : ∀ i, i < l.length → OpnIn (l.getD i nilOpn)) :
    Calls Try.prog 6 #[.int .i64 nodes, .slice a l.length c] w fun e w' => e = .returned (.bool true) ∧ Below w.heap.size w w' := by
  have HO : Hid (OpsAt w.heap.size w a l) := h
  have HIN : Hid (∀ i, i < l.length → OpnIn (l.getD i nilOpn)) := hin
  clear h hin
  go_enter Try.func6, Try.ntmps6
  go_wp2_with fail
  refine (first_any w).mono ?_
  rintro e w1 ⟨rfl, hB1⟩
  have HB1 : Hid (Below w.heap.size w w1) := hB1
  have hz1 := hB1.size
  clear hB1
  go_wp2_with fail
  refine (few_any a c l w.heap.size w1 (HO.out.below HB1.out) hz1 hl).mono ?_
  rintro e w2 ⟨t, rfl, ht, hw⟩
  subst w2
  have HT : Hid (t = true → l.length ≤ 300) := ht
  clear ht
  go_wp2_with fail
  by_cases hn : 1 ≤ nodes ∧ nodes ≤ 7
  · refine (New_any nodes hn.1 hn.2 w1).mono ?_
    rintro e w3 ⟨b, S, L, rfl, hNt, -, hB3⟩
    have HN3 : Hid (Nt w.heap.size S w3 b (newN nodes L)) := hNt.base hz1
    have HB3 : Hid (Below w.heap.size w w3) := HB1.out.trans (hB3.mono hz1)
    clear hNt hB3 HB1 hz1 hn
    cases t with
    | false =>
      go_wp2
      go_ret
      exact ⟨rfl, HB3.out⟩
    | true =>
      have hl3 : l.length ≤ 300 := HT.out rfl
      clear HT
      go_wp2_with fail
      obtain ⟨G, hG⟩ : ∃ G, w.heap.size = G := ⟨_, rfl⟩
      have HG : Hid (w.heap.size = G) := hG
      rw [hG] at HN3 HB3 HO
      clear hG
      go_loopw [8, 9] (fun rv iv wr => ∃ (i : Nat) (S : Nat → Prop) (P : PN) (rl : List Opn), iv = .int .i64 (i : Int) ∧ i ≤ l.length ∧ OS G w wr b rv i S P rl) (fun _ iv _ => l.length - (intOf iv).toNat)
      case atStart => exact ⟨0, S, newN nodes L, [], rfl, Nat.zero_le _, ⟨HN3.out, Wq.nil _, by simp [Value.ownBlock], rfl, by simp, by simp [newN], HB3.out⟩⟩
      case round =>
        obtain ⟨i, S1, P, rl, rfl, hi, hOS⟩ := hrel
        have HOS : Hid (OS G w wr b u8 i S1 P rl) := hOS
        clear hOS
        by_cases hlt : i < l.length
        · obtain ⟨ab, off, hea, hb, he⟩ := HO.out.at hlt
          subst hea
          have hon := HIN.out i hlt
          have he1 := he.below hb HOS.out.bel
          have hda := he.2
          generalize l.getD i nilOpn = o at *
          obtain ⟨kd, oa, ob, up, da, dc, d⟩ := o
          obtain ⟨⟨c0, c1, c2, c3, c4⟩, -⟩ := he1
          unfold Opn.x at c4 hda
          simp only at c0 c1 c2 c3 c4 hda
          have HDA : Hid (Sl G w (.slice da d.length dc) d) := hda
          have hdl : d.length ≤ 140737488351232 := hon.2
          have i0 : (0 : Int) ≤ (i : Int) := by omega
          have i1 : (i : Int) < (l.length : Int) := by omega
          have hGw : G ≤ w.heap.size := by rw [HG.out]; exact Nat.le_refl _
          have hbw : ab < wr.heap.size := by have := HOS.out.bel.size; omega
          clear he hda hb hon
          obtain ⟨W1, hW1⟩ : ∃ W1, wr.alloc (.cells #[.int .i64 kd, .int .i64 oa, .int .i64 ob, .bool up, .slice da d.length dc] 32) = W1 := ⟨_, rfl⟩
          have hBa : Below wr.heap.size wr W1 := by rw [← hW1]; exact (Below.refl _ wr).alloc (Nat.le_refl _) _
          have hX1 : W1.heap[wr.heap.size]? = some (.cells #[.int .i64 kd, .int .i64 oa, .int .i64 ob, .bool up, .slice da d.length dc] 32 (0, 0)) := by rw [← hW1]; exact heap_alloc_new wr _
          have hXw : wr.heap.size < W1.heap.size := by rw [← hW1]; simp
          have HOS1 : Hid (OS G w W1 b u8 i S1 P rl) := HOS.out.below hBa hGw
          have HXX : Hid (∀ w2, Out S1 W1 w2 → w2.heap[wr.heap.size]? = some (.cells #[.int .i64 kd, .int .i64 oa, .int .i64 ob, .bool up, .slice da d.length dc] 32 (0, 0)) ∧ wr.heap.size < w2.heap.size) := fun w2 hO => ⟨(hO.block _ hXw (fun hs => by have := HOS.out.nt.inn _ hs; omega)).trans hX1, Nat.lt_of_lt_of_le hXw hO.size⟩
          have hGz : G ≤ W1.heap.size := by have := HOS1.out.bel.size; omega
          have hk9 : P.k < 1000000000 := by have := HOS1.out.k; omega
          have HSEP : Hid (∀ w', Out (fun j => j = b) W1 w' → Sl w'.heap.size w' (.slice da d.length dc) d) := fun w' hO => by
            have h1 : Below G w w' := HOS1.out.bel.trans (hO.below hGz (fun j hj => by rw [hj]; exact HOS1.out.nt.fr _ HOS1.out.nt.Sb))
            exact (HDA.out.below h1).mono (by have := h1.size; omega)
          obtain ⟨⟨x0, x1, x2, x3, x4⟩, -⟩ := cells5 hX1
          obtain ⟨ra, rc, hrv, hrc, -⟩ := HOS1.out.row.shape
          subst hrv
          have HLE : Hid (P.E.length = rl.length) := HOS1.out.len
          clear hBa hX1 HOS
          by_cases h0 : kd = 0
          · subst h0
            have HLK : Hid (Calls _ _ _ _ _) := Linked_any HOS1.out.nt oa ob
            have HSN : Hid (Calls _ _ _ _ _) := Send_any HOS1.out.nt hGz oa ob da d dc (by omega) HSEP.out hk9
            have HQ : Hid (P.snd oa ob = (P.lnk oa ob && decide ((rl.length : Int) < 2000))) := by
              show _ = _
              unfold PN.snd
              rw [HLE.out]
              congr 1
              simp only [decide_eq_decide]
              omega
            go_wp2_with fail
            try rw [hW1]
            clear hW1
            refine HLK.out.mono ?_
            rintro e w9 ⟨rfl, hw⟩
            subst w9
            go_wp2_with fail
            refine HSN.out.mono ?_
            rintro e w2 ⟨rfl, hT⟩
            obtain ⟨hX2, hXw2⟩ := HXX.out w2 hT.out
            obtain ⟨⟨y0, y1, y2, y3, y4⟩, -⟩ := cells5 hX2
            have HTT : Hid (NTh G S1 W1 w2 b (P.send oa ob d)) := hT
            obtain ⟨sn, hsn⟩ : ∃ sn, P.snd oa ob = sn := ⟨_, rfl⟩
            have HSS : Hid (P.snd oa ob = sn) := hsn
            have HNO : Hid (sn = false → OS G w w2 b (.slice ra rl.length rc) (i + 1) (grew S1 W1 w2) P rl) := fun hf => by
              have e1 := PN.send_no (d := d) (hsn.trans hf)
              have hT' := hT
              rw [e1] at hT'
              exact HOS1.out.net hT' hGw rfl (by omega)
            rw [hsn] at HQ ⊢
            clear hsn hT HLK HSN HSEP HXX hX2 c0 c1 c2 c3 c4 x0 x1 x2 x3 x4
            generalize P.lnk oa ob = lk1 at *
            cases lk1 with
            | false =>
              -- @ARM k0a
              have hs0 : sn = false := by rw [HQ.out]; rfl
              have HR : Hid (OS G w w2 b (.slice ra rl.length rc) (i + 1) (grew S1 W1 w2) P rl) := HNO.out hs0
              subst hs0
              clear HQ HNO
              go_wp2
              exact ⟨⟨i + 1, _, _, _, by go_num, by omega, HR.out⟩, by simp [intOf]; omega⟩
              -- @FIN k0a
            | true =>
              by_cases hlen : (rl.length : Int) < 2000
              ·
                -- @ARM k0b
                have hs1 : sn = true := by rw [HQ.out]; simp [hlen]
                subst hs1
                have HQ4 : Hid (∀ (w4 : World) (v' : Value), Wq w4 v' (rl ++ [(⟨0, oa, ob, up, da, dc, d⟩ : Opn)]) → (w2.alloc (.cells #[.int .i64 0, .int .i64 oa, .int .i64 ob, .bool up, .slice da d.length dc] 32)).grownBy w4 (Value.slice ra rl.length rc).ownBlock → (v'.ownBlock = (Value.slice ra rl.length rc).ownBlock ∨ v'.ownBlock = some (w2.alloc (.cells #[.int .i64 0, .int .i64 oa, .int .i64 ob, .bool up, .slice da d.length dc] 32)).heap.size) → OS G w w4 b v' (i + 1) (grew S1 W1 w2) (P.send oa ob d) (rl ++ [(⟨0, oa, ob, up, da, dc, d⟩ : Opn)])) := fun w4 v' q1 q2 q3 =>
                  HOS1.out.sent (o := (⟨0, oa, ob, up, da, dc, d⟩ : Opn)) hGw HSS.out HTT.out HDA.out q1 q2 q3
                have hrow5 : Wq (w2.alloc (.cells #[.int .i64 0, .int .i64 oa, .int .i64 ob, .bool up, .slice da d.length dc] 32)) (.slice ra rl.length rc) rl := (HOS1.out.row.out HTT.out.out (fun g hg => (HOS1.out.ap g hg).1)).out (X := fun _ => False) ((Out.refl _ _).alloc _) (fun _ _ hf => hf)
                have hlen5 : rl.length + 1 ≤ 1000000 := by omega
                have hop5 := op_cells w2 (⟨0, oa, ob, up, da, dc, d⟩ : Opn) 32
                clear HQ HNO
                go_wp2_with (at_builtin; refine wpList_append_wq rfl _ _ rfl (.slice ra rl.length rc) rl (⟨0, oa, ob, up, da, dc, d⟩ : Opn) w2.heap.size 1 rfl hrow5 rfl hop5 hlen5 ?_; intro v' w4 q1 q2 q3; have HR : Hid (OS _ _ _ _ _ _ _ _ _) := HQ4.out w4 v' q1 q2 q3; clear q1 q2 q3 HQ4 hrow5 hop5)
                exact ⟨⟨i + 1, _, _, _, by go_num, by omega, HR.out⟩, by simp [intOf]; omega⟩
                -- @FIN k0b
              ·
                -- @ARM k0c
                have hs0 : sn = false := by rw [HQ.out]; simp; omega
                have HR : Hid (OS G w w2 b (.slice ra rl.length rc) (i + 1) (grew S1 W1 w2) P rl) := HNO.out hs0
                subst hs0
                have hlen' : decide ((rl.length : Int) < 2000) = false := by simpa using hlen
                clear HQ HNO
                go_wp2
                exact ⟨⟨i + 1, _, _, _, by go_num, by omega, HR.out⟩, by simp [intOf]; omega⟩
                -- @FIN k0c
          · have h0' : (kd == 0) = false := by simpa using h0
            by_cases h6 : kd = 6
            · subst h6
              have HLI : Hid (Calls _ _ _ _ _) := Link_any HOS1.out.nt hGz oa ob up
              have HTW : Hid (P.two oa ob = true → (P.link oa ob up).lnk oa ob = up ∧ (P.link oa ob up).lnk ob oa = up) := fun ht => PN.lnk_link HOS1.out.nt.ok ht up
              clear h0
              go_wp2_with fail
              try rw [hW1]
              clear hW1
              refine HLI.out.mono ?_
              rintro e w2 ⟨rfl, hT, hz2⟩
              obtain ⟨hX2, hXw2⟩ := HXX.out w2 hT.out
              obtain ⟨⟨y0, y1, y2, y3, y4⟩, -⟩ := cells5 hX2
              have HR : Hid (∀ n, OS G w (w2.drewN n) b (.slice ra rl.length rc) (i + 1) (grew S1 W1 (w2.drewN n)) (P.link oa ob up) rl) := fun n => HOS1.out.net (hT.drewN n) hGw (by rw [PN.link_E]) (by rw [PN.link_k]; omega)
              have HL1 : Hid (∀ n, Calls Try.prog 26 #[.pointer (some ⟨b, 0, none⟩), .int .i64 oa, .int .i64 ob] (w2.drewN n) fun e w' => e = .returned (.bool ((P.link oa ob up).lnk oa ob)) ∧ w' = w2.drewN n) := fun n => Linked_any (hT.q.drewN n) oa ob
              have HL2 : Hid (∀ n, Calls Try.prog 26 #[.pointer (some ⟨b, 0, none⟩), .int .i64 ob, .int .i64 oa] (w2.drewN n) fun e w' => e = .returned (.bool ((P.link oa ob up).lnk ob oa)) ∧ w' = w2.drewN n) := fun n => Linked_any (hT.q.drewN n) ob oa
              clear hT HLI HSEP HXX hX2 c0 c1 c2 c3 c4 x0 x1 x2 x3 x4
              cases htw : P.two oa ob with
              | true =>
                -- @ARM k6a
                obtain ⟨e1, e2⟩ := HTW.out htw
                rw [e1] at HL1
                rw [e2] at HL2
                clear HTW htw e1 e2
                go_wp2_with fail
                cases up with
                | true =>
                  go_quiet (first | (go_at_call 26; with_reducible exact Calls.quiet_of_same (HL1.out _)) | (go_at_call 26; with_reducible exact Calls.quiet_of_same (HL2.out _)))
                  go_wp2
                  exact ⟨⟨i + 1, _, _, _, by go_num, by omega, HR.out _⟩, by simp [intOf]; omega⟩
                | false =>
                  go_quiet (first | (go_at_call 26; with_reducible exact Calls.quiet_of_same (HL1.out _)) | (go_at_call 26; with_reducible exact Calls.quiet_of_same (HL2.out _)))
                  go_wp2
                  exact ⟨⟨i + 1, _, _, _, by go_num, by omega, HR.out _⟩, by simp [intOf]; omega⟩
                -- @FIN k6a
              | false =>
                -- @ARM k6b
                clear HTW htw
                go_wp2_with fail
                go_quiet (fail)
                go_wp2
                exact ⟨⟨i + 1, _, _, _, by go_num, by omega, HR.out _⟩, by simp [intOf]; omega⟩
                -- @FIN k6b
            · have h6' : (kd == 6) = false := by simpa using h6
              -- @ARM k1
              have HTK : Hid (Calls _ _ _ _ _) := Take_any HOS1.out.nt hGz 0
              clear h0 h6
              go_wp2_with fail
              try rw [hW1]
              clear hW1
              refine HTK.out.mono ?_
              rintro e w2 (⟨hat, rfl, hT⟩ | ⟨hat, m, rfl, hsy, hT, hOw, -⟩)
              ·
                -- @ARM k1a
                have htk : P.take 0 = P := by unfold PN.take; rw [hat]; rfl
                rw [htk] at hT
                have hrl : rl.length = 0 := by
                  have := HLE.out
                  unfold PN.at at hat
                  simp at hat
                  rw [← this, hat]; rfl
                have HR : Hid (∀ o, OS G w (w2.alloc o) b (.slice ra rl.length rc) (i + 1) (grew S1 W1 w2) P rl) := fun o => (HOS1.out.net hT hGw rfl (by omega)).below ((Below.refl _ w2).alloc (Nat.le_refl _) _) hGw
                have hrl' : ((rl.length : Int)) = 0 := by omega
                clear hT hat htk HTK HSEP HXX c0 c1 c2 c3 c4 x0 x1 x2 x3 x4 hrl
                go_wp2
                exact ⟨⟨i + 1, _, _, _, by go_num, by omega, HR.out _⟩, by simp [intOf]; omega⟩
                -- @FIN k1a
              ·
                -- @ARM k1b
                obtain ⟨o, rl', hro⟩ : ∃ o rl', rl = o :: rl' := by
                  cases rl with
                  | nil => have := HLE.out; unfold PN.at at hat; simp at hat; simp at this; rw [this] at hat; simp at hat
                  | cons o rl' => exact ⟨o, rl', rfl⟩
                subst hro
                obtain ⟨rg, roff, hra, hrg, r0, r1, r2, r3, r4⟩ := Wq.first (HOS1.out.row.out hT.out (fun g hg => (HOS1.out.ap g hg).1))
                subst hra
                obtain ⟨mm, hm1, hm2, hm3⟩ := HOS1.out.took (rv' := .slice (if rc = 1 then some ⟨rg, roff, none⟩ else some ⟨rg, roff + 5, none⟩) rl'.length (rc - 1)) hGw hT
                rw [hsy.trans hm1 |>.symm] at hm2
                obtain ⟨mn, mf, mt, ma, mc, md, ms⟩ := m
                have hm2' : (mf, mt, md, ms) = (o.a, o.b, o.d, false) := hm2
                simp only [Prod.mk.injEq] at hm2'
                obtain ⟨rfl, rfl, rfl, rfl⟩ := hm2'
                obtain ⟨W3, hW3⟩ : ∃ W3, w2.alloc (.cells #[.int .i64 mn, .int .i64 o.a, .int .i64 o.b, .slice ma o.d.length mc, .bool false] 41) = W3 := ⟨_, rfl⟩
                have HW3 : Hid (w2.alloc (.cells #[.int .i64 mn, .int .i64 o.a, .int .i64 o.b, .slice ma o.d.length mc, .bool false] 41) = W3) := hW3
                have hB3 : Below w2.heap.size w2 W3 := by rw [← hW3]; exact (Below.refl _ w2).alloc (Nat.le_refl _) _
                have hX3 : W3.heap[w2.heap.size]? = some (.cells #[.int .i64 mn, .int .i64 o.a, .int .i64 o.b, .slice ma o.d.length mc, .bool false] 41 (0, 0)) := by rw [← hW3]; exact heap_alloc_new w2 _
                have hXw3 : w2.heap.size < W3.heap.size := by rw [← hW3]; simp
                have HX3 : Hid (W3.heap[w2.heap.size]? = some (.cells #[.int .i64 mn, .int .i64 o.a, .int .i64 o.b, .slice ma o.d.length mc, .bool false] 41 (0, 0))) := hX3
                have hrw3 : rg < W3.heap.size := by omega
                have q0 := (hB3.cell (p := ⟨rg, roff, none⟩) hrg).trans r0
                have q1 := (hB3.cell (p := ⟨rg, roff + 1, none⟩) hrg).trans r1
                have q2 := (hB3.cell (p := ⟨rg, roff + 2, none⟩) hrg).trans r2
                have q4 := (hB3.cell (p := ⟨rg, roff + 4, none⟩) hrg).trans r4
                unfold Opn.x at q4
                have hs1 : Sl W3.heap.size W3 (.slice ma o.d.length mc) o.d := (hOw.below hB3 (Nat.le_refl _)).sl (Nat.le_refl _)
                have hB23 : Below G w W3 := (HOS1.out.bel.trans (hT.bel hGz)).trans (hB3.mono (by have := (HOS1.out.bel.trans (hT.bel hGz)).size; omega))
                have hs2 : Sl W3.heap.size W3 (.slice o.da o.d.length o.dc) o.d := ((HOS1.out.dat o (List.mem_cons_self)).below hB23).mono (by have := hB23.size; omega)
                have HSM : Hid (∀ n, Calls Try.prog 27 #[.slice ma o.d.length mc, .slice o.da o.d.length o.dc] (W3.drewN n) fun e w' => e = .returned (.bool true) ∧ ∃ m, w' = (W3.drewN n).drewN m) := fun n => by
                  have := same_any W3.heap.size _ _ o.d o.d (W3.drewN n) hs1 hs2
                  simpa using this
                have hWq2 : Wq w2 (.slice (some ⟨rg, roff, none⟩) (rl'.length + 1) rc) (o :: rl') := HOS1.out.row.out hT.out (fun g hg => (HOS1.out.ap g hg).1)
                have HR : Hid (∀ n A, A = (if rc = 1 then some (⟨rg, roff, none⟩ : Addr) else some ⟨rg, roff + 5, none⟩) → OS G w (W3.drewN n) b (.slice A rl'.length (rc - 1)) (i + 1) (grew S1 W1 w2) (P.take 0) rl') := fun n A hA => by
                  have hWq3 : Wq (W3.drewN n) (.slice (some ⟨rg, roff, none⟩) (rl'.length + 1) rc) (o :: rl') := (hWq2.out (X := fun _ => False) (Out.of_below hB3) (fun _ _ hf => hf)).out (X := fun _ => False) (Out.drew W3 n) (fun _ _ hf => hf)
                  obtain ⟨k1, k2⟩ := hWq3.cut A hA
                  subst hA
                  exact hm3 (W3.drewN n) (below_drewN hB3 n) k1 (fun g hg => by rw [k2 g hg]; rfl)
                obtain ⟨A, hA⟩ : ∃ A, (if rc = 1 then some (⟨rg, roff, none⟩ : Addr) else some ⟨rg, roff + 5, none⟩) = A := ⟨_, rfl⟩
                have HRA : Hid (∀ n, OS G w (W3.drewN n) b (.slice A rl'.length (rc - 1)) (i + 1) (grew S1 W1 w2) (P.take 0) rl') := fun n => HR.out n A hA.symm
                have hlp : (0 : Int) < ((rl'.length + 1 : Nat) : Int) := by omega
                have hlc : 1 ≤ rl'.length + 1 := by omega
                simp only [List.length_cons] at hrc
                have hrc1 : 1 ≤ rc := by omega
                clear hT hat HTK HSEP HXX c0 c1 c2 c3 c4 x0 x1 x2 x3 x4 hm1 hm2 hm3 hsy hOw hs1 hs2 hB3 hX3 r0 r1 r2 r3 r4 hWq2 HR hB23 hW3
                go_wp2_with fail
                rw [HW3.out]
                obtain ⟨⟨z0, z1, z2, z3, z4⟩, -⟩ := cells5 HX3.out
                clear HW3 HX3
                go_quiet ((go_at_call 27; exact Calls.quiet_of (HSM.out _)))
                go_wp2_with fail
                clear HSM
                go_quiet (fail)
                go_wp2_with fail
                try rw [hA]
                exact ⟨⟨i + 1, _, _, _, by go_num, by omega, HRA.out _⟩, by simp [intOf]; omega⟩
                -- @FIN k1b
              -- @FIN k1
        · have hie : (l.length : Int) ≤ (i : Int) := by omega
          have HLN := Len_any HOS.out.nt
          rw [HOS.out.len] at HLN
          have HLN2 : Hid (Calls _ _ _ _ _) := HLN
          obtain ⟨ra, rc, hrv, -, -⟩ := HOS.out.row.shape
          have HBF : Hid (Below w.heap.size w wr) := by show Below _ _ _; rw [HG.out]; exact HOS.out.bel
          clear HLN HOS
          subst hrv
          generalize rl.length = m at *
          go_wp2_with fail
          refine HLN2.out.mono ?_
          rintro e w9 ⟨rfl, hw⟩
          subst w9
          go_wp2
          go_ret
          exact ⟨by simp, HBF.out⟩
  · refine (New_no nodes hn w1).mono ?_
    rintro e w3 ⟨rfl, hw⟩
    subst w3
    clear hn
    cases t with
    | false =>
      go_wp2
      go_ret
      exact ⟨rfl, HB1.out⟩
    | true =>
      go_wp2
      go_ret
      exact ⟨rfl, HB1.out⟩
end Go.Proofs.Ytefbfjlmhfmiiaa
