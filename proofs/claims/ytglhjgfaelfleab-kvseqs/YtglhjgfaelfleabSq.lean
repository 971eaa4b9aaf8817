/-
  KvSeqs: what has effect has rising numbers.
-/
import Derived.Test.YtglhjgfaelfleabDw
namespace Go.Proofs.Ytglhjgfaelfleab
open Go.RowKit
set_option linter.unusedVariables false

/-- The last number of a client, as it is looked for. -/
def seenL (cl : Int) (ss : List Se) : Int := ss.foldl (fun a s => if s.cl = cl then s.sq else a) 0
theorem seenL_take {cl : Int} {ss : List Se} {k : Nat} (h : k < ss.length) : seenL cl (ss.take (k + 1)) = if ss[k].cl = cl then ss[k].sq else seenL cl (ss.take k) := by
  unfold seenL; rw [List.take_succ_eq_append_getElem h, List.foldl_append]; rfl
theorem seen_none {cl : Int} : ∀ {ss : List Se} {a : Int}, (∀ s ∈ ss, s.cl ≠ cl) → ss.foldl (fun a s => if s.cl = cl then s.sq else a) a = a
  | [], _, _ => rfl
  | s :: q, a, h => by
    rw [List.foldl_cons, if_neg (h s (by simp))]
    exact seen_none (fun t ht => h t (by simp [ht]))
theorem seen_look {cl : Int} : ∀ {ss : List Se} {a : Int}, ss.Pairwise (fun x y => kS x ≠ kS y) → ss.foldl (fun a s => if s.cl = cl then s.sq else a) a = match lookS cl ss with | none => a | some s => s.sq
  | [], _, _ => rfl
  | s :: q, a, hp => by
    obtain ⟨h1, h2⟩ := List.pairwise_cons.1 hp
    rw [List.foldl_cons]
    unfold lookS lookK
    rw [List.find?_cons]
    by_cases e : s.cl = cl
    · rw [if_pos e]
      have : (kS s).sameKey (.int .i64 cl) = true := by simp [kS, Lit.sameKey, e]
      rw [this]
      exact seen_none (fun t ht e2 => h1 t ht (by simp [kS, e, e2]))
    · rw [if_neg e]
      have : (kS s).sameKey (.int .i64 cl) = false := by simp [kS, Lit.sameKey, e]
      rw [this]
      exact seen_look h2
theorem seen_all {cl : Int} {ss : List Se} (hr : Ris kS ss) : seenL cl ss = match lookS cl ss with | none => 0 | some s => s.sq := seen_look (ris_neS hr)
/-- What the law asks behind each command. -/
theorem seqs_ok {K : KV} (hK : K.Ok) (hr : Ris kS K.ss) (c : Cm) :
    (c.ck ≠ 0 ∧ (doF K c).1 = K ∧ (doF K c).2 = ⟨0, []⟩) ∨ (c.ck = 0 ∧ seenL c.cl K.ss < c.sq) ∨ (c.ck = 0 ∧ c.sq = seenL c.cl K.ss ∧ (doF K c).1 = K ∧ (doF K c).2.code ≠ 4) ∨ (c.ck = 0 ∧ c.sq < seenL c.cl K.ss ∧ (doF K c).1 = K ∧ (doF K c).2.code = 4) := by
  by_cases hck : c.ck = 0
  · obtain ⟨_, _, k3, _, _, _⟩ := ck_ok hck
    rw [seen_all hr]
    cases hl : lookS c.cl K.ss with
    | none => exact .inr (.inl ⟨hck, by dsimp only; omega⟩)
    | some s =>
      dsimp only
      have hs := hK.se s (lookK_some hl).1
      by_cases h1 : s.sq < c.sq
      · exact .inr (.inl ⟨hck, h1⟩)
      · right; right
        have hse : settled K.ss c.cl c.sq = if c.sq = s.sq then some s.rp else some ⟨4, []⟩ := by unfold settled; rw [hl]; dsimp only; rw [if_neg h1]
        by_cases h2 : c.sq = s.sq
        · left
          rw [if_pos h2] at hse
          have e : doF K c = (K, s.rp) := by unfold doF; rw [if_neg (by simpa using hck), hse]
          rw [e]
          exact ⟨hck, h2, rfl, by rcases hs.code with h | h | h | h <;> (show s.rp.code ≠ 4; omega)⟩
        · right
          rw [if_neg h2] at hse
          have e : doF K c = (K, ⟨4, []⟩) := by unfold doF; rw [if_neg (by simpa using hck), hse]
          rw [e]
          exact ⟨hck, by omega, rfl, rfl⟩
  · exact .inl ⟨hck, by unfold doF; rw [if_pos hck], by unfold doF; rw [if_pos hck]; rfl⟩

set_option maxRecDepth 100000 in
set_option maxHeartbeats 8000000 in
theorem seqs_walk (w : World) (a : Option Addr) (cap : Nat) (cs : List Cm) (hc : Cs w.heap.size w a cs) :
    Calls Try.prog 3 #[.slice a cs.length cap] w fun e w' => e = .returned (.bool true) ∧ Below w.heap.size w w' := by
  have HC : Hid (∀ W, Below w.heap.size w W → Cs w.heap.size W a cs) := fun W hB => hc.below hB
  have hl : cs.length ≤ maxLen := hc.1
  unfold maxLen at hl
  clear hc
  go_enter Try.func3, Try.ntmps3
  go_wp2_with fail
  refine (first_any w).mono ?_
  rintro e w1 ⟨rfl, hB1⟩
  have HF := few_any a cap cs w.heap.size w1 (HC.out w1 hB1)
  have HB1 : Hid (Below w.heap.size w w1) := hB1
  clear hB1
  go_wp2_with fail
  refine HF.mono ?_
  rintro e w2 ⟨t, rfl, ht, q2, rfl⟩
  have HB2 : Hid (Below w.heap.size w (w1.drewN q2)) := Below.drewN' HB1.out q2
  clear HF
  by_cases hsm : t = true ∧ cs.length ≤ 200
  case neg =>
    cases t with
    | false =>
      go_wp2
      go_ret
      exact ⟨rfl, HB2.out⟩
    | true =>
      have hgt : (200 : Int) < (cs.length : Int) := by have : ¬ cs.length ≤ 200 := fun h => hsm ⟨rfl, h⟩; omega
      go_wp2
      go_ret
      exact ⟨rfl, HB2.out⟩
  case pos =>
    obtain ⟨rfl, hl2⟩ := hsm
    have hgt : decide ((200 : Int) < (cs.length : Int)) = false := by simp; omega
    obtain ⟨W2, HW2⟩ : ∃ W2, Hid (w1.drewN q2 = W2) := ⟨_, rfl⟩
    rw [HW2.out] at HB2 ⊢
    clear HW2 HB1 ht hl
    go_wp2_with fail
    refine (new_any W2).mono ?_
    rintro e W3 ⟨rfl, h3, hB3, hz3⟩
    have HU3 : Hid (Up w W3 (W2.heap.size + 2) W2.heap.size (W2.heap.size + 1) ⟨[], []⟩) := ⟨h3, HB2.out.trans (hB3.mono HB2.out.size), HB2.out.size, by have := HB2.out.size; omega⟩
    generalize W2.heap.size + 2 = b at *
    generalize W2.heap.size + 1 = ms at *
    generalize W2.heap.size = mp at *
    clear h3 hB3 hz3 HB2
    go_wp2_with fail
    go_loopw [6] (fun iv wr => ∃ i : Nat, iv = .int .i64 (i : Int) ∧ i ≤ cs.length ∧ Up w wr b mp ms (runF ⟨[], []⟩ (cs.take i))) (fun iv _ => cs.length - (intOf iv).toNat)
    case atStart => exact ⟨0, rfl, Nat.zero_le _, HU3.out⟩
    case round =>
      obtain ⟨i, rfl, hi, hU⟩ := hrel
      clear HU3
      by_cases hlt : i < cs.length
      · have hlt' : (i : Int) < (cs.length : Int) := by omega
        have hi0 : (0 : Int) ≤ (i : Int) := by omega
        have HRK : Hid (runF ⟨[], []⟩ (cs.take (i + 1)) = (doF (runF ⟨[], []⟩ (cs.take i)) cs[i]).1) := runF_take hlt
        have HCA : Hid (∀ W, Below w.heap.size w W → ∃ g off, a = some ⟨g, off, none⟩ ∧ g < w.heap.size ∧ CmAt W g (off + i * 6) cs[i]) := fun W hB => by
          obtain ⟨g, off, h1, h2, h3, -⟩ := (HC.out W hB).at hlt
          exact ⟨g, off, h1, h2, h3⟩
        obtain ⟨g, off, hea, hg, -⟩ := HCA.out wr hU.bel
        subst hea
        have HCB : Hid (∀ W, Below w.heap.size w W → CmAt W g (off + i * 6) cs[i]) := fun W hB => by
          obtain ⟨g', off', h1, h2, h3⟩ := HCA.out W hB
          cases h1
          exact h3
        generalize runF ⟨[], []⟩ (cs.take i) = K at *
        generalize cs[i] = x at *
        clear HCA
        have HSQ : Hid _ := seqs_ok hU.st.ok hU.st.risS x
        have HU : Hid (Up w wr b mp ms K) := hU
        have CS := sessions_any hU.st
        clear hU
        go_wp2_with fail
        refine CS.mono ?_
        rintro e W5 ⟨v5, rfl, hro5, hB5⟩
        obtain ⟨sa, sc, rfl, -, -⟩ := hro5.shape
        have HU5 : Hid (Up w W5 b mp ms K) := HU.out.below hB5
        have HR5 : Hid (Ro RS wr.heap.size W5 (.slice sa K.ss.length sc) K.ss) := hro5
        have hfs : K.ss.length ≤ 32 := HU.out.st.ok.fewS
        have hW5 : g < W5.heap.size := by have := HU5.out.bel.size; omega
        clear hro5 hB5 CS HU
        go_wp2_with fail
        go_loopw [7, 9] (fun sv kv wq => ∃ (k : Nat), sv = .int .i64 (seenL x.cl (K.ss.take k)) ∧ kv = .int .i64 (k : Int) ∧ k ≤ K.ss.length ∧ Up w wq b mp ms K ∧ Ro RS wr.heap.size wq (.slice sa K.ss.length sc) K.ss) (fun _ kv _ => K.ss.length - (intOf kv).toNat)
        case atStart => exact ⟨0, rfl, rfl, Nat.zero_le _, HU5.out, HR5.out⟩
        case round =>
          generalize hwq : wr = wq at *
          obtain ⟨k, rfl, rfl, hk, hUq, hRq⟩ := hrel
          have HUq : Hid (Up w wq b mp ms K) := hUq
          have HRq : Hid (Ro RS _ wq (.slice sa K.ss.length sc) K.ss) := hRq
          obtain ⟨c0, c1, c2, c3, c4, c5⟩ := HCB.out _ hUq.bel
          have lgq : g < wq.heap.size := by have := hUq.bel.size; omega
          clear hUq hRq HU5 HR5
          by_cases hkl : k < K.ss.length
          · have hkl' : (k : Int) < (K.ss.length : Int) := by omega
            have hk0 : (0 : Int) ≤ (k : Int) := by omega
            obtain ⟨sg, sc', hv, -, hsl, -, hcell⟩ := HRq.out.at0 (by omega)
            cases hv
            have d0 := hcell k 0 hkl (by decide)
            have d1 := hcell k 1 hkl (by decide)
            have HST : Hid (seenL x.cl (K.ss.take (k + 1)) = if K.ss[k].cl = x.cl then K.ss[k].sq else seenL x.cl (K.ss.take k)) := seenL_take hkl
            generalize K.ss[k] = s at *
            obtain ⟨scl, ssq, srp⟩ := s
            have d0' : wq.cell? ⟨sg, k * 4, none⟩ = some (.int .i64 scl) := d0
            have d1' : wq.cell? ⟨sg, k * 4 + 1, none⟩ = some (.int .i64 ssq) := d1
            dsimp only at HST
            clear hcell d0 d1
            generalize seenL x.cl (K.ss.take k) = sn at *
            obtain ⟨op, cl, sq, ky, vl, od⟩ := x
            dsimp only at c1 HST
            by_cases he : scl = cl
            · subst he
              rw [if_pos rfl] at HST
              go_wp2_with fail
              go_quiet (fail)
              go_wp2
              go_roundw
              case rel => exact ⟨k + 1, by rw [HST.out], by go_num, by omega, HUq.out.below (Below.drewN' (Below.refl _ _) _), HRq.out.below (Below.drewN' (Below.refl _ _) _) (Nat.le_refl _)⟩
              case measure => simp [intOf]; omega
            · rw [if_neg he] at HST
              have he' : (scl == cl) = false := by simpa using he
              go_wp2_with fail
              go_quiet (fail)
              go_wp2
              go_roundw
              case rel => exact ⟨k + 1, by rw [HST.out], by go_num, by omega, HUq.out.below (Below.drewN' (Below.refl _ _) _), HRq.out.below (Below.drewN' (Below.refl _ _) _) (Nat.le_refl _)⟩
              case measure => simp [intOf]; omega
          · have hkl' : decide ((k : Int) < (K.ss.length : Int)) = false := by simp; omega
            obtain rfl : k = K.ss.length := by omega
            rw [List.take_length]
            obtain ⟨W6, HW6⟩ : ∃ W6, Hid (wq = W6) := ⟨_, rfl⟩
            have HU6 : Hid (Up w W6 b mp ms K) := by rw [← HW6.out]; exact HUq.out
            rw [HW6.out] at c0 c1 c2 c3 c4 c5 ⊢
            clear HW6 HUq HRq lgq hW5 hkl'
            have CS := snapshot_any HU6.out.st
            have CD := fun W (hB : Up w W b mp ms K) => up_do hB x
            go_wp2_with fail
            refine CS.mono ?_
            rintro e W7 ⟨v7, rfl, hO7, hB7⟩
            have HU7 : Hid (Up w W7 b mp ms K) := HU6.out.below hB7
            obtain ⟨ta, tc, rfl, -, -⟩ := hO7.shape
            have HO7 : Hid (Ow W6.heap.size W7 (.slice ta (snapB K).length tc) (snapB K)) := hO7
            replace CD := CD W7 HU7.out
            obtain ⟨c0, c1, c2, c3, c4, c5⟩ := HCB.out _ HU7.out.bel
            obtain ⟨op, cl, sq, ky, vl, od⟩ := x
            dsimp only at c0 c1 c2 c3 c4 c5 CD HSQ
            generalize hdd : doF K ⟨op, cl, sq, ky, vl, od⟩ = dd at CD HSQ HRK
            obtain ⟨K', rc', rv'⟩ := dd
            dsimp only at CD HSQ HRK
            generalize Cm.ck ⟨op, cl, sq, ky, vl, od⟩ = ee at CD HSQ
            generalize seenL cl K.ss = sn at *
            have HD : Hid (Calls _ _ _ _ _) := CD
            clear hO7 hB7 CS CD hdd
            go_wp2_with fail
            refine HD.out.mono ?_
            rintro e W8 ⟨rfl, hU8, hk8, hO8⟩
            obtain ⟨W9, HW9⟩ : ∃ W9, Hid (W8.alloc (.cells #[.int .i64 rc', .string ⟨rv'.toArray⟩] 30) = W9) := ⟨_, rfl⟩
            have HU9 : Hid (Up w W9 b mp ms K') := by rw [← HW9.out]; exact hU8.alloc _
            have HR9 : Hid (Rb W9 W8.heap.size rc' rv') := by rw [← HW9.out]; exact Rb.new _ _ _
            have HO9 : Hid (Ow W6.heap.size W9 (.slice ta (snapB K).length tc) (snapB K)) := by rw [← HW9.out]; exact (HO7.out.kpt hk8).alloc _
            clear hU8 hk8 hO8 HU7 HO7 HD c0 c1 c2 c3 c4 c5
            have CS := snapshot_any HU9.out.st
            go_wp2_with fail
            rw [HW9.out]
            refine CS.mono ?_
            rintro e Wa ⟨va, rfl, hOa, hBa⟩
            have HUa : Hid (Up w Wa b mp ms K') := HU9.out.below hBa
            have HRa : Hid (Rb Wa W8.heap.size rc' rv') := HR9.out.below hBa
            obtain ⟨ua, uc, rfl, -, -⟩ := hOa.shape
            have CM := same_any Wa.heap.size _ _ _ _ Wa ((HO9.out.below hBa (Nat.le_refl _)).sl (Nat.le_refl _)) (hOa.sl (Nat.le_refl _))
            clear hOa hBa CS HU9 HR9 HO9 HW9
            have HM : Hid (Calls _ _ _ _ _) := CM
            clear CM
            go_wp2_with fail
            refine HM.out.mono ?_
            rintro e Wb ⟨rfl, qb, rfl⟩
            obtain ⟨Wb, HWb⟩ : ∃ Wb, Hid (Wa.drewN qb = Wb) := ⟨_, rfl⟩
            have HUb : Hid (Up w Wb b mp ms K') := by rw [← HWb.out]; exact HUa.out.below (Below.drewN' (Below.refl _ _) qb)
            have HRb : Hid (Rb Wb W8.heap.size rc' rv') := by rw [← HWb.out]; exact HRa.out.below (Below.drewN' (Below.refl _ _) qb)
            rw [HWb.out]
            clear HM HWb HUa HRa
            obtain ⟨m0, m1⟩ := HRb.out.cells
            obtain ⟨c0, c1, c2, c3, c4, c5⟩ := HCB.out _ HUb.out.bel
            dsimp only at c0 c1 c2 c3 c4 c5
            have lg : g < Wb.heap.size := by have := HUb.out.bel.size; omega
            rcases HSQ.out with ⟨h1, h2, h3⟩ | ⟨h1, h2⟩ | ⟨h1, h2, h3, h4⟩ | ⟨h1, h2, h3, h4⟩
            · subst h2
              cases h3
              have e1 : ((ee : Int) != 0) = true := by simp; omega
              have e2 : ((ee : Int) == 0) = false := by simp; omega
              clear h1
              clear HSQ HCB
              go_wp2_with (go_at_call 12; refine (num_any _ _).mono ?_; rintro e wz ⟨rfl, hz⟩; subst wz)
              go_quiet ((go_at_call 12; exact Calls.quiet_of_same (num_any _ _)))
              go_wp2
              go_roundw
              case rel => exact ⟨i + 1, by go_num, by omega, by rw [HRK.out]; exact HUb.out.below (Below.drewN' (Below.refl _ _) _)⟩
              case measure => simp [intOf]; omega
            · subst h1
              have e3 : decide (sq ≤ sn) = false := by simp; omega
              clear HSQ HCB
              go_wp2_with (go_at_call 12; refine (num_any _ _).mono ?_; rintro e wz ⟨rfl, hz⟩; subst wz)
              go_quiet ((go_at_call 12; exact Calls.quiet_of_same (num_any _ _)))
              go_wp2
              go_roundw
              case rel => exact ⟨i + 1, by go_num, by omega, by rw [HRK.out]; exact HUb.out.below (Below.drewN' (Below.refl _ _) _)⟩
              case measure => simp [intOf]; omega
            · subst h1
              subst h2
              subst h3
              have e4 : (rc' == 4) = false := by simpa using h4
              clear HSQ HCB
              go_wp2_with (go_at_call 12; refine (num_any _ _).mono ?_; rintro e wz ⟨rfl, hz⟩; subst wz)
              go_quiet ((go_at_call 12; exact Calls.quiet_of_same (num_any _ _)))
              go_wp2
              go_roundw
              case rel => exact ⟨i + 1, by go_num, by omega, by rw [HRK.out]; exact HUb.out.below (Below.drewN' (Below.refl _ _) _)⟩
              case measure => simp [intOf]; omega
            · subst h1
              subst h3
              subst h4
              have e5 : sq ≤ sn := by omega
              clear HSQ HCB
              go_wp2_with (go_at_call 12; refine (num_any _ _).mono ?_; rintro e wz ⟨rfl, hz⟩; subst wz)
              go_quiet ((go_at_call 12; exact Calls.quiet_of_same (num_any _ _)))
              go_wp2
              go_roundw
              case rel => exact ⟨i + 1, by go_num, by omega, by rw [HRK.out]; exact HUb.out.below (Below.drewN' (Below.refl _ _) _)⟩
              case measure => simp [intOf]; omega
      · have hlt' : decide ((i : Int) < (cs.length : Int)) = false := by simp; omega
        go_wp2
        go_ret
        exact ⟨rfl, hU.bel⟩
end Go.Proofs.Ytglhjgfaelfleab
