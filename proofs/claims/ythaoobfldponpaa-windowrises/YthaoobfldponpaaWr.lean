/-
  WindowRises: the walk of the law.
-/
import Derived.Test.YthaoobfldponpaaWl
namespace Go.Proofs.Ythaoobfldponpaa
open Go.RowKit
set_option linter.unusedVariables false

set_option maxRecDepth 100000 in
set_option maxHeartbeats 20000000 in
theorem windowRises_walk (room : Int) (hr : In64 room) (a : Option Addr) (ca : Nat) (l : List Opn) (w : World) (hl : OpsAt w.heap.size w a l) (hll : l.length ≤ 9223372036854775807) :
    Calls Try.prog 8 #[.int .i64 room, .slice a l.length ca] w fun e w' => e = .returned (.bool true) ∧ Below w.heap.size w w' := by
  obtain ⟨x0, y0, R, h1, h2, h3, h4, hR1, hR2, -⟩ := small 64 (by omega) (by omega) room hr
  have g1 : room.tmod 64 = x0 := h1
  have g2 : IntKind.i64.wrap (x0 + 64) = x0 + 64 := h2
  have g3 : (x0 + 64).tmod 64 = y0 := h3
  have HL : Hid (OpsAt w.heap.size w a l) := hl
  clear hl h1 h2 h3 hr
  go_enter Try.func8, Try.ntmps8
  go_wp2_with fail
  refine (first_any w).mono ?_
  rintro e w1 ⟨rfl, hB1⟩
  have HB1 : Hid (Below w.heap.size w w1) := hB1
  clear hB1
  by_cases hlen : 400 < l.length
  · have hg : decide ((400 : Int) < (l.length : Int)) = true := by simp; omega
    clear hlen
    go_wp2
    go_ret
    exact ⟨rfl, HB1.out⟩
  have hg : decide ((400 : Int) < (l.length : Int)) = false := by simp; omega
  go_wp2_with fail
  refine (newWindow_any w.heap.size R w1 hR1 hR2 HB1.out.size).mono ?_
  rintro e w2 ⟨rfl, hn2, hB2⟩
  have HN2 : Hid _ := hn2
  have HB2 : Hid (Below w.heap.size w w2) := HB1.out.trans (hB2.mono HB1.out.size)
  clear hn2 hB2 HB1
  obtain ⟨d, HD⟩ : ∃ d, Hid (w1.heap.size + 1 = d) := ⟨_, rfl⟩
  rw [HD.out] at HN2 ⊢
  clear g1 g2 g3 h4
  go_wp2
  go_loopw [7] (fun iv wr => ∃ (i : Nat) (S : Nat → Prop) (L : List Int), iv = .int .i64 (i : Int) ∧ i ≤ l.length ∧ Wn w.heap.size S wr d R L ∧ L.Pairwise (· < ·) ∧ Below w.heap.size w wr) (fun iv _ => l.length - (intOf iv).toNat)
  case atStart => exact ⟨0, _, [], rfl, Nat.zero_le _, HN2.out, List.Pairwise.nil, HB2.out⟩
  case round =>
    obtain ⟨i, S, L, rfl, hi, hW, hS, hB⟩ := hrel
    by_cases hnl : l.length ≤ i
    · have hil' : decide ((i : Int) < (l.length : Int)) = false := by simp; omega
      have HB : Hid (Below w.heap.size w wr) := hB
      clear hW hS hB
      go_wp2
      go_ret
      exact ⟨rfl, HB.out⟩
    have hil : i < l.length := by omega
    have hil' : (i : Int) < (l.length : Int) := by omega
    have HW : Hid (Wn w.heap.size S wr d R L) := hW
    have HB : Hid (Below w.heap.size w wr) := hB
    have HSL : Hid (L.Pairwise (· < ·)) := hS
    have hLR := hW.len
    clear hW hS hB HN2 HB2
    generalize wr = wp at *
    obtain ⟨b0, o0, rfl, hb0, ho0⟩ := HL.out.at hil
    have HO : Hid (OpAt w b0 (o0 + i * 3) (l.getD i nilOp)) := ho0
    generalize l.getD i nilOp = op at *
    obtain ⟨kd0, n0, ln0⟩ := op
    clear ho0
    go_wp2_with fail
    refine (witems_any HW.out).mono ?_
    rintro e w3 ⟨v3, rfl, ho3, hB3⟩
    obtain ⟨a3, c3, rfl, -, -⟩ := ho3.shape
    have HW3 : Hid (Wn w.heap.size S w3 d R L) := HW.out.below hB3
    have HB3 : Hid (Below w.heap.size w w3) := HB.out.trans (hB3.mono HB.out.size)
    obtain ⟨⟨e0, e1, -⟩, -⟩ := HO.out.below hb0 HB3.out
    simp only at e0 e1
    clear ho3 hB3 HB HW
    by_cases hkd : kd0 = 0
    · subst hkd
      go_wp2_with fail
      refine (add_any HW3.out HB3.out.size n0).mono ?_
      rintro e w4 ⟨rfl, t4⟩
      have HW4 : Hid (Wn w.heap.size (grew S w3 w4) w4 d R (addL R L n0)) := t4.q
      have HB4 : Hid (Below w.heap.size w w4) := HB3.out.trans (t4.bel HB3.out.size)
      clear t4 e0 e1
      have HSRT : Hid ((addL R L n0).Pairwise (· < ·)) := rises_add HSL.out
      have HOK : Hid ((addOk R L n0 = true ∧ addL R L n0 = L ++ [n0]) ∨ (addOk R L n0 = false ∧ addL R L n0 = L)) := by
        show _ ∨ _
        unfold addOk addL putL
        cases above L n0 <;> by_cases h : L.length < R <;> simp [h]
      obtain ⟨L2, HL2⟩ : ∃ L2, Hid (addL R L n0 = L2) := ⟨_, rfl⟩
      rw [HL2.out] at HW4 HSRT HOK
      generalize hOKB : addOk R L n0 = ok at *
      clear hOKB HL2
      go_wp2_with fail
      refine (witems_any HW4.out).mono ?_
      rintro e w5 ⟨v5, rfl, ho5, hB5⟩
      obtain ⟨a5, c5, rfl, -, -, hn5⟩ := ho5.sl (Nat.le_refl _)
      have HWN0 : Hid (Wn w.heap.size (grew S w3 w4) w5 d R L2) := HW4.out.below hB5
      have HBQ0 : Hid (Below w.heap.size w w5) := HB4.out.trans (hB5.mono HB4.out.size)
      have hL5 := HW4.out.len
      obtain ⟨⟨f0, f1, -⟩, -⟩ := HO.out.below hb0 HBQ0.out
      simp only at f0 f1
      have hwL : IntKind.i64.wrap ((L.length : Int) + 1) = (L.length : Int) + 1 := by rw [IntKind.wrap_i64]; omega
      obtain ⟨S2, HS2⟩ : ∃ S2, Hid (grew S w3 w4 = S2) := ⟨_, rfl⟩
      rw [HS2.out] at HWN0
      rcases HOK.out with ⟨hok, hl2⟩ | ⟨hok, hl2⟩
      · subst hok
        have hlen2 : L2.length = L.length + 1 := by rw [hl2]; simp
        have q1 : ((L2.length : Int) == (L.length : Int) + 1) = true := by simp; omega
        obtain ⟨b5, o5, rfl, -, hc5⟩ := hn5.resolve_left (by intro e; rw [e] at hlen2; simp at hlen2)
        have q2 := hc5 (L2.length - 1) (by omega)
        have q3 : L2[L2.length - 1]?.getD 0 = n0 := by rw [hl2]; simp
        rw [q3] at q2
        have q4 : IntKind.i64.wrap ((L2.length : Int) - 1) = ((L2.length - 1 : Nat) : Int) := by rw [IntKind.wrap_i64]; omega
        have q5 : ((L2.length - 1 : Nat) : Int) < (L2.length : Int) := by omega
        have q6 : L2.length - 1 < L2.length := by omega
        clear hn5 hc5 q3 HOK hl2 ho5 hB5 HW4 HB4 HS2
        have HLL : Hid (L2.length = L.length + 1) := hlen2
        clear hlen2
        generalize hq : L2.length - 1 = q at *
        clear hq
        go_wp2
        go_quiet (fail)
        have HWN : Hid (Wn w.heap.size S2 (w5.drewN nq) d R L2) := HWN0.out.out (X := fun _ => False) (Out.drew w5 nq) (fun _ _ hf => hf)
        have HBQ : Hid (Below w.heap.size w (w5.drewN nq)) := HBQ0.out.trans ((Out.drew (X := fun _ => False) w5 nq).below HBQ0.out.size (fun _ h => h.elim))
        clear f0 f1 q1 q2 q4 q5 q6 HWN0 HBQ0 hwL HLL hL5
        generalize w5.drewN nq = w6 at *
        go_wp2_with fail
        refine (witems_any HWN.out).mono ?_
        rintro e wn ⟨vn, rfl, hon, hBn⟩
        have HWN2 : Hid (Wn w.heap.size S2 wn d R L2) := HWN.out.below hBn
        have HBN : Hid (Below w.heap.size w wn) := HBQ.out.trans (hBn.mono HBQ.out.size)
        obtain ⟨⟨f0, f1, -⟩, -⟩ := HO.out.below hb0 HBN.out
        obtain ⟨an, cn, rfl, -, -, hn3⟩ := hon.sl (Nat.le_refl _)
        have hL2 : L2.length ≤ 64 := by have := HWN.out.len; omega
        have HC : Hid (L2 = [] ∨ ∃ b off, an = some ⟨b, off, none⟩ ∧ b < wn.heap.size ∧ ∀ i, i < L2.length → wn.cell? ⟨b, off + i, none⟩ = some (.int .i64 (L2[i]?.getD 0))) := hn3
        clear hon hBn HWN HBQ hn3
        go_wp2
        go_loopw [13] (fun kv wq => ∃ k m : Nat, kv = .int .i64 (k : Int) ∧ k ≤ L2.length ∧ wq = wn.drewN m) (fun kv _ => L2.length - (intOf kv).toNat)
        case atStart => exact ⟨0, 0, rfl, Nat.zero_le _, rfl⟩
        case round =>
          obtain ⟨k, m, rfl, hk, rfl⟩ := hrel
          by_cases hkl : k < L2.length
          · have hkl' : (k : Int) < (L2.length : Int) := by omega
            obtain ⟨bn, on, rfl, -, hcn⟩ := HC.out.resolve_left (by intro e; rw [e] at hkl; simp at hkl)
            have d0 := hcn k hkl
            by_cases hk0 : k = 0
            · subst hk0
              simp only [Nat.add_zero] at d0
              generalize L2[0]?.getD 0 = x at d0
              clear hcn HC
              go_wp2
              go_quiet (fail)
              go_wp2
              exact ⟨⟨1, _, by go_num, by omega, rfl⟩, by simp [intOf]; omega⟩
            · have hk0' : 0 < k := by omega
              have d1 := hcn (k - 1) (by omega)
              have hwk : IntKind.i64.wrap ((k : Int) - 1) = ((k - 1 : Nat) : Int) := by rw [IntKind.wrap_i64]; omega
              have hk1 : ((k - 1 : Nat) : Int) < (L2.length : Int) := by omega
              have hk2 : k - 1 < L2.length := by omega
              have a1 := ask HSRT.out hkl hk0
              generalize L2[k]?.getD 0 = x at d0 a1
              generalize L2[k - 1]?.getD 0 = y at d1 a1
              generalize hkk : k - 1 = k1 at d1 hwk hk1 hk2
              clear hcn HC hkk
              go_wp2
              go_quiet (fail)
              go_wp2
              exact ⟨⟨k + 1, _, by go_num, by omega, rfl⟩, by simp [intOf]; omega⟩
          · have hkl' : decide ((k : Int) < (L2.length : Int)) = false := by simp; omega
            have hle := HWN2.out.len.1
            have hgt : decide ((R : Int) < (L2.length : Int)) = false := by simp; omega
            obtain ⟨B, hB1, HB2⟩ : ∃ B : Bool, ((L2.length : Int) == (R : Int)) = B ∧ Hid (decide (L2.length = R) = B) := ⟨_, rfl, by
              show _ = _
              rw [Bool.eq_iff_iff]
              simp
              omega⟩
            have HFU : Hid (∀ q, Calls Try.prog 19 #[.pointer (some ⟨d, 0, none⟩)] (wn.drewN q) fun e w' => e = .returned (.bool B) ∧ ∃ n, w' = (wn.drewN q).drewN n) := fun q => by
              have := full_any (HWN2.out.out (X := fun _ => False) (Out.drew wn q) (fun _ _ hf => hf))
              rw [HB2.out] at this
              exact this
            clear HC
            go_wp2_with (go_at_call 19; refine (HFU.out _).mono ?_; rintro e wz ⟨rfl, q, rfl⟩)
            have hOz : Out (fun _ => False) wn (wn.drewN (m + q)) := Out.drew wn _
            exact ⟨⟨i + 1, S2, L2, by go_num, by omega, HWN2.out.out hOz (fun _ _ hf => hf), HSRT.out, HBN.out.trans (hOz.below HBN.out.size (fun _ h => h.elim))⟩, by simp [intOf]; omega⟩
      · subst hok
        have q1 : ((L2.length : Int) == (L.length : Int) + 1) = false := by rw [hl2]; simp; omega
        clear hn5 HOK hl2 ho5 hB5 HW4 HB4 HS2
        go_wp2
        go_quiet (fail)
        have HWN : Hid (Wn w.heap.size S2 (w5.drewN nq) d R L2) := HWN0.out.out (X := fun _ => False) (Out.drew w5 nq) (fun _ _ hf => hf)
        have HBQ : Hid (Below w.heap.size w (w5.drewN nq)) := HBQ0.out.trans ((Out.drew (X := fun _ => False) w5 nq).below HBQ0.out.size (fun _ h => h.elim))
        clear f0 f1 q1 HWN0 HBQ0 hwL hL5
        generalize w5.drewN nq = w6 at *
        go_wp2_with fail
        refine (witems_any HWN.out).mono ?_
        rintro e wn ⟨vn, rfl, hon, hBn⟩
        have HWN2 : Hid (Wn w.heap.size S2 wn d R L2) := HWN.out.below hBn
        have HBN : Hid (Below w.heap.size w wn) := HBQ.out.trans (hBn.mono HBQ.out.size)
        obtain ⟨⟨f0, f1, -⟩, -⟩ := HO.out.below hb0 HBN.out
        obtain ⟨an, cn, rfl, -, -, hn3⟩ := hon.sl (Nat.le_refl _)
        have hL2 : L2.length ≤ 64 := by have := HWN.out.len; omega
        have HC : Hid (L2 = [] ∨ ∃ b off, an = some ⟨b, off, none⟩ ∧ b < wn.heap.size ∧ ∀ i, i < L2.length → wn.cell? ⟨b, off + i, none⟩ = some (.int .i64 (L2[i]?.getD 0))) := hn3
        clear hon hBn HWN HBQ hn3
        go_wp2
        go_loopw [13] (fun kv wq => ∃ k m : Nat, kv = .int .i64 (k : Int) ∧ k ≤ L2.length ∧ wq = wn.drewN m) (fun kv _ => L2.length - (intOf kv).toNat)
        case atStart => exact ⟨0, 0, rfl, Nat.zero_le _, rfl⟩
        case round =>
          obtain ⟨k, m, rfl, hk, rfl⟩ := hrel
          by_cases hkl : k < L2.length
          · have hkl' : (k : Int) < (L2.length : Int) := by omega
            obtain ⟨bn, on, rfl, -, hcn⟩ := HC.out.resolve_left (by intro e; rw [e] at hkl; simp at hkl)
            have d0 := hcn k hkl
            by_cases hk0 : k = 0
            · subst hk0
              simp only [Nat.add_zero] at d0
              generalize L2[0]?.getD 0 = x at d0
              clear hcn HC
              go_wp2
              go_quiet (fail)
              go_wp2
              exact ⟨⟨1, _, by go_num, by omega, rfl⟩, by simp [intOf]; omega⟩
            · have hk0' : 0 < k := by omega
              have d1 := hcn (k - 1) (by omega)
              have hwk : IntKind.i64.wrap ((k : Int) - 1) = ((k - 1 : Nat) : Int) := by rw [IntKind.wrap_i64]; omega
              have hk1 : ((k - 1 : Nat) : Int) < (L2.length : Int) := by omega
              have hk2 : k - 1 < L2.length := by omega
              have a1 := ask HSRT.out hkl hk0
              generalize L2[k]?.getD 0 = x at d0 a1
              generalize L2[k - 1]?.getD 0 = y at d1 a1
              generalize hkk : k - 1 = k1 at d1 hwk hk1 hk2
              clear hcn HC hkk
              go_wp2
              go_quiet (fail)
              go_wp2
              exact ⟨⟨k + 1, _, by go_num, by omega, rfl⟩, by simp [intOf]; omega⟩
          · have hkl' : decide ((k : Int) < (L2.length : Int)) = false := by simp; omega
            have hle := HWN2.out.len.1
            have hgt : decide ((R : Int) < (L2.length : Int)) = false := by simp; omega
            obtain ⟨B, hB1, HB2⟩ : ∃ B : Bool, ((L2.length : Int) == (R : Int)) = B ∧ Hid (decide (L2.length = R) = B) := ⟨_, rfl, by
              show _ = _
              rw [Bool.eq_iff_iff]
              simp
              omega⟩
            have HFU : Hid (∀ q, Calls Try.prog 19 #[.pointer (some ⟨d, 0, none⟩)] (wn.drewN q) fun e w' => e = .returned (.bool B) ∧ ∃ n, w' = (wn.drewN q).drewN n) := fun q => by
              have := full_any (HWN2.out.out (X := fun _ => False) (Out.drew wn q) (fun _ _ hf => hf))
              rw [HB2.out] at this
              exact this
            clear HC
            go_wp2_with (go_at_call 19; refine (HFU.out _).mono ?_; rintro e wz ⟨rfl, q, rfl⟩)
            have hOz : Out (fun _ => False) wn (wn.drewN (m + q)) := Out.drew wn _
            exact ⟨⟨i + 1, S2, L2, by go_num, by omega, HWN2.out.out hOz (fun _ _ hf => hf), HSRT.out, HBN.out.trans (hOz.below HBN.out.size (fun _ h => h.elim))⟩, by simp [intOf]; omega⟩
    · have hkd1 : (kd0 == 0) = false := by simpa using hkd
      have hkd2 : (kd0 != 0) = true := by simpa using hkd
      clear hkd
      go_wp2_with fail
      refine (free_any HW3.out HB3.out.size n0).mono ?_
      rintro e w4 ⟨rfl, t4⟩
      have HW4 : Hid (Wn w.heap.size (grew S w3 w4) w4 d R (freeL L n0)) := t4.q
      have HB4 : Hid (Below w.heap.size w w4) := HB3.out.trans (t4.bel HB3.out.size)
      clear t4 e0 e1
      obtain ⟨hs1, hs2⟩ := rises_free (n := n0) HSL.out
      have hf2 : freeL (freeL L n0) n0 = freeL L n0 := free_twice hs2
      have hle2 : (freeL L n0).length ≤ L.length := (free_sub L n0).length_le
      obtain ⟨L2, HL2⟩ : ∃ L2, Hid (freeL L n0 = L2) := ⟨_, rfl⟩
      rw [HL2.out] at HW4 hs1 hs2 hf2 hle2 ⊢
      have HSRT : Hid (L2.Pairwise (· < ·)) := hs1
      have HGT : Hid (∀ x ∈ L2, n0 < x) := hs2
      have HF2 : Hid (freeL L2 n0 = L2) := hf2
      clear hs1 hs2 hf2
      have hwd : IntKind.i64.wrap ((L.length : Int) - (L2.length : Int)) = ((L.length - L2.length : Nat) : Int) := by rw [IntKind.wrap_i64]; omega
      clear HL2
      generalize hdd : L.length - L2.length = dd at *
      clear hdd
      go_wp2_with fail
      refine (witems_any HW4.out).mono ?_
      rintro e w5 ⟨v5, rfl, ho5, hB5⟩
      obtain ⟨a5, c5, rfl, -, -⟩ := ho5.shape
      have HW5 : Hid (Wn w.heap.size (grew S w3 w4) w5 d R L2) := HW4.out.below hB5
      have HB5 : Hid (Below w.heap.size w w5) := HB4.out.trans (hB5.mono HB4.out.size)
      obtain ⟨⟨f0, f1, -⟩, -⟩ := HO.out.below hb0 HB5.out
      simp only at f0 f1
      clear ho5 hB5 HW4 HB4
      have hfr := free_any HW5.out HB5.out.size n0
      rw [HF2.out, Nat.sub_self] at hfr
      go_wp2_with fail
      refine hfr.mono ?_
      rintro e w6 ⟨rfl, t6⟩
      have HWN0 : Hid (Wn w.heap.size (grew (grew S w3 w4) w5 w6) w6 d R L2) := t6.q
      have HBQ : Hid (Below w.heap.size w w6) := HB5.out.trans (t6.bel HB5.out.size)
      obtain ⟨S2, HS2⟩ : ∃ S2, Hid (grew (grew S w3 w4) w5 w6 = S2) := ⟨_, rfl⟩
      rw [HS2.out] at HWN0
      have HWN : Hid (Wn w.heap.size S2 w6 d R L2) := HWN0.out
      clear t6 hfr f0 f1 HW5 HB5 HS2 hwd hle2 HWN0
      go_wp2_with fail
      refine (witems_any HWN.out).mono ?_
      rintro e wn ⟨vn, rfl, hon, hBn⟩
      have HWN2 : Hid (Wn w.heap.size S2 wn d R L2) := HWN.out.below hBn
      have HBN : Hid (Below w.heap.size w wn) := HBQ.out.trans (hBn.mono HBQ.out.size)
      obtain ⟨⟨f0, f1, -⟩, -⟩ := HO.out.below hb0 HBN.out
      obtain ⟨an, cn, rfl, -, -, hn3⟩ := hon.sl (Nat.le_refl _)
      have hL2 : L2.length ≤ 64 := by have := HWN.out.len; omega
      have HC : Hid (L2 = [] ∨ ∃ b off, an = some ⟨b, off, none⟩ ∧ b < wn.heap.size ∧ ∀ i, i < L2.length → wn.cell? ⟨b, off + i, none⟩ = some (.int .i64 (L2[i]?.getD 0))) := hn3
      clear hon hBn HWN HBQ hn3
      go_wp2
      go_loopw [13] (fun kv wq => ∃ k m : Nat, kv = .int .i64 (k : Int) ∧ k ≤ L2.length ∧ wq = wn.drewN m) (fun kv _ => L2.length - (intOf kv).toNat)
      case atStart => exact ⟨0, 0, rfl, Nat.zero_le _, rfl⟩
      case round =>
        obtain ⟨k, m, rfl, hk, rfl⟩ := hrel
        by_cases hkl : k < L2.length
        · have hkl' : (k : Int) < (L2.length : Int) := by omega
          obtain ⟨bn, on, rfl, -, hcn⟩ := HC.out.resolve_left (by intro e; rw [e] at hkl; simp at hkl)
          have d0 := hcn k hkl
          have A2 : Hid (decide (L2[k]?.getD 0 ≤ n0) = false) := ask2 HGT.out hkl
          by_cases hk0 : k = 0
          · subst hk0
            have a2 := A2.out
            simp only [Nat.add_zero] at d0
            generalize L2[0]?.getD 0 = x at d0 a2
            clear hcn HC A2
            go_wp2
            go_quiet (fail)
            go_wp2
            exact ⟨⟨1, _, by go_num, by omega, rfl⟩, by simp [intOf]; omega⟩
          · have hk0' : 0 < k := by omega
            have d1 := hcn (k - 1) (by omega)
            have hwk : IntKind.i64.wrap ((k : Int) - 1) = ((k - 1 : Nat) : Int) := by rw [IntKind.wrap_i64]; omega
            have hk1 : ((k - 1 : Nat) : Int) < (L2.length : Int) := by omega
            have hk2 : k - 1 < L2.length := by omega
            have a1 := ask HSRT.out hkl hk0
            have a2 := A2.out
            generalize L2[k]?.getD 0 = x at d0 a2 a1
            generalize L2[k - 1]?.getD 0 = y at d1 a1
            generalize hkk : k - 1 = k1 at d1 hwk hk1 hk2
            clear hcn HC A2 hkk
            go_wp2
            go_quiet (fail)
            go_wp2
            exact ⟨⟨k + 1, _, by go_num, by omega, rfl⟩, by simp [intOf]; omega⟩
        · have hkl' : decide ((k : Int) < (L2.length : Int)) = false := by simp; omega
          have hle := HWN2.out.len.1
          have hgt : decide ((R : Int) < (L2.length : Int)) = false := by simp; omega
          obtain ⟨B, hB1, HB2⟩ : ∃ B : Bool, ((L2.length : Int) == (R : Int)) = B ∧ Hid (decide (L2.length = R) = B) := ⟨_, rfl, by
            show _ = _
            rw [Bool.eq_iff_iff]
            simp
            omega⟩
          have HFU : Hid (∀ q, Calls Try.prog 19 #[.pointer (some ⟨d, 0, none⟩)] (wn.drewN q) fun e w' => e = .returned (.bool B) ∧ ∃ n, w' = (wn.drewN q).drewN n) := fun q => by
            have := full_any (HWN2.out.out (X := fun _ => False) (Out.drew wn q) (fun _ _ hf => hf))
            rw [HB2.out] at this
            exact this
          clear HC
          go_wp2_with (go_at_call 19; refine (HFU.out _).mono ?_; rintro e wz ⟨rfl, q, rfl⟩)
          have hOz : Out (fun _ => False) wn (wn.drewN (m + q)) := Out.drew wn _
          exact ⟨⟨i + 1, S2, L2, by go_num, by omega, HWN2.out.out hOz (fun _ _ hf => hf), HSRT.out, HBN.out.trans (hOz.below HBN.out.size (fun _ h => h.elim))⟩, by simp [intOf]; omega⟩

end Go.Proofs.Ythaoobfldponpaa
