/-
  TrackOnce: the walk.
-/
import Derived.Test.YtdgaimiggejleabVp
import Derived.Test.YtdgaimiggejleabFi
import Derived.Test.YtdgaimiggejleabRin
namespace Go.Proofs.Ytdgaimiggejleab
open Go.RowKit
set_option linter.unusedVariables false

theorem grown_none {w w' : World} (h : w.grownBy w' none) : Below w.heap.size w w' := ⟨h.os, h.tape, h.output, h.size, fun i hi => h.block i hi (by simp)⟩
theorem Ow.poke {N : Nat} {w : World} {g L c : Nat} {l : List Int} (h : Ow N w (.slice (some ⟨g, 0, none⟩) L c) l) (k : Nat) (x : Int) : Ow N (w.setCell ⟨g, k, none⟩ (.int .i64 x)) (.slice (some ⟨g, 0, none⟩) L c) (l.set k x) := by
  rcases h.2 with ⟨hv, _⟩ | ⟨g', cap, cur, hv, hN, hb, h1, h2, h3, h4⟩
  · cases hv
  · cases hv
    simp only [Nat.mul_one] at h3 h4
    refine ⟨by simp, .inr ⟨g, c, cur.setIfInBounds k (.int .i64 x), by simp, hN, heap_set hb k _, by simpa using h1, h2, by simpa using h3, ?_⟩⟩
    simp only [Nat.mul_one, Array.toList_setIfInBounds, List.length_set]
    rw [List.take_set, h4, List.map_set]
theorem rep_cells (n : Nat) : (madeCells (Value.int .i64 0).cells (n * 1)).toList = (List.replicate n (0 : Int)).map (Value.int .i64) := by
  rw [Nat.mul_one]
  show (madeCells #[.int .i64 0] n).toList = _
  rw [toList_madeCells_one, List.map_replicate]

/-- Who was seen. -/
def Sn (N : Nat) (w : World) (sg R : Nat) (V : Nat → Bool) : Prop := ∃ sl : List Int, Ow N w (.slice (some ⟨sg, 0, none⟩) (R + 1) (R + 1)) sl ∧ sl.length = R + 1 ∧ ∀ j, j < R → sl[j + 1]?.getD 0 = if V j then 1 else 0
theorem Sn.out {N : Nat} {X : Nat → Prop} {w w' : World} {sg R : Nat} {V : Nat → Bool} (h : Sn N w sg R V) (hO : Out X w w') (hx : ¬ X sg) : Sn N w' sg R V := by
  obtain ⟨sl, h1, h2⟩ := h
  exact ⟨sl, h1.out hO (fun g hg => by simp [Value.ownBlock] at hg; subst hg; exact hx), h2⟩
theorem Sn.lt {N : Nat} {w : World} {sg R : Nat} {V : Nat → Bool} (h : Sn N w sg R V) : N ≤ sg ∧ sg < w.heap.size := by
  obtain ⟨sl, h1, h2⟩ := h
  exact h1.lt rfl
theorem Sn.cell {N : Nat} {w : World} {sg R : Nat} {V : Nat → Bool} (h : Sn N w sg R V) {j : Nat} (hj : j < R) : w.cell? ⟨sg, j + 1, none⟩ = some (.int .i64 (if V j then 1 else 0)) ∧ w.frozen? ⟨sg, j + 1, none⟩ = false := by
  obtain ⟨sl, h1, h2, h3⟩ := h
  rcases h1.2 with ⟨hv, _⟩ | ⟨g', cap, cur, hv, hN, hb, -, -, k3, k4⟩
  · cases hv
  · simp only [Value.slice.injEq, Option.some.injEq, Addr.mk.injEq] at hv
    obtain ⟨⟨rfl, -, -⟩, -, -⟩ := hv
    obtain ⟨a, c, hv, -, -, hc⟩ := h1.sl (Nat.le_refl _)
    simp only [Value.slice.injEq] at hv
    obtain ⟨rfl, -, rfl⟩ := hv
    obtain ⟨b, off, e, -, hc⟩ := hc.resolve_left (by intro e; rw [e] at h2; simp at h2)
    cases e
    have := hc (j + 1) (by omega)
    rw [Nat.zero_add, h3 j hj] at this
    exact ⟨this, by simp [World.frozen?, hb]⟩
theorem Sn.set {N : Nat} {w : World} {sg R : Nat} {V : Nat → Bool} (h : Sn N w sg R V) {j : Nat} (hj : j < R) : Sn N (w.setCell ⟨sg, j + 1, none⟩ (.int .i64 1)) sg R (fun i => if i = j then true else V i) := by
  obtain ⟨sl, h1, h2, h3⟩ := h
  refine ⟨sl.set (j + 1) 1, h1.poke (j + 1) 1, by simpa using h2, fun i hi => ?_⟩
  rw [List.getElem?_set]
  by_cases e : i = j
  · subst e; rw [if_pos rfl, if_pos (by omega)]; simp
  · rw [if_neg (by omega), h3 i hi]; simp [e]
theorem Sn.new {N : Nat} {w w' : World} {R : Nat} (h : w'.ownsRow N 3 1 (.slice (some ⟨w.heap.size, 0, none⟩) (R + 1) (R + 1)) (R + 1) (madeCells (Value.int .i64 0).cells ((R + 1) * 1)).toList) : Sn N w' w.heap.size R (fun _ => false) := by
  refine ⟨List.replicate (R + 1) 0, ?_, by simp, fun j hj => by rw [List.getElem?_replicate, if_pos (by omega)]; rfl⟩
  unfold Ow
  rw [List.length_replicate, ← rep_cells]
  exact h

theorem res0 {R : Nat} (h1 : 1 ≤ R) (h7 : R ≤ 7) : (pV0 (R : Int)).res = 0 := by
  have hq : qrm (R : Int) = (R : Int) / 2 + 1 := by rw [qrm, if_pos (by omega)]
  show (if qrm (R : Int) ≤ 0 then (1 : Int) else if (R : Int) - 0 < qrm (R : Int) then 2 else 0) = 0
  rw [hq, if_neg (by omega), if_neg (by omega)]

set_option maxRecDepth 100000 in
set_option maxHeartbeats 8000000 in
theorem once_walk (z0 : Int) (hb0 : In64 z0) (ea : Option Addr) (ec : Nat) (es : List Vot) (w : World) (hx : VotAts w.heap.size w ea es) (hel : es.length ≤ 9223372036854775807) :
    Calls Try.prog 3 #[.int .i64 z0, .slice ea es.length ec] w fun e w' => e = .returned (.bool true) ∧ Below w.heap.size w w' := by
  obtain ⟨x, y, R, e1, e2, e3, e4, hR1, hR2, -⟩ := small7 z0 hb0
  have HF : Hid (Calls _ _ _ _ _) := first_any w
  have HX : Hid (VotAts w.heap.size w ea es) := hx
  clear hb0 hx
  go_enter Try.func3, Try.ntmps3
  go_wp2_with fail
  refine HF.out.mono ?_
  rintro r w1 ⟨rfl, hB1⟩
  have HB1 : Hid (Below w.heap.size w w1) := hB1
  clear hB1 HF
  go_wp2_with fail
  refine (NewVotes_any (R : Int) w1 (by omega) (by omega)).mono ?_
  rintro r w2 ⟨rfl, hV2, hB2⟩
  have HV2 : Hid (VE w2 w1.heap.size (pV0 (R : Int))) := hV2
  have HB2 : Hid (Below w.heap.size w w2) := HB1.out.trans (hB2.mono HB1.out.size)
  have HC2 : Hid ((pV0 (R : Int)).Cnt) := PV.Cnt.new _ (by omega) (by omega)
  have HR0 : Hid ((pV0 (R : Int)).res = 0) := res0 hR1 hR2
  have hNb : w.heap.size ≤ w1.heap.size := HB1.out.size
  have hb2 : w1.heap.size < w2.heap.size := hV2.lt
  clear hV2 hB2 e1 e2 e3 e4
  by_cases hl : es.length ≤ 300
  · obtain ⟨i0, hi0, hiz, his, hib⟩ := info_parts info
    have hw1 : IntKind.i64.wrap ((R : Int) + 1) = (R : Int) + 1 := by rw [IntKind.wrap_i64]; omega
    have hsz : w.heap.size ≤ w2.heap.size := by omega
    go_wp2_with (first | (at_make; (refine wpList_make_full _ rfl _ _ 26 rfl w.heap.size 3 i0 (.int .i64 0) 1 Try.underlying26 hi0 hiz his .i64 .i64 _ _ (R + 1) rfl rfl (by simp) (by simp) (by rw [hib]; omega) (by unfold maxLen; omega) hsz ?_; intro w3 hown3 hg3; have HSN : Hid (Sn w.heap.size w3 w2.heap.size R (fun _ => false)) := Sn.new hown3; have HG3 : Hid (Below w2.heap.size w2 w3) := grown_none hg3; clear hown3 hg3)) | fail)
    have HV3 : Hid (VE w3 w1.heap.size (pV0 (R : Int))) := HV2.out.below HG3.out
    have HB3 : Hid (Below w.heap.size w w3) := HB2.out.trans (HG3.out.mono HB2.out.size)
    clear HV2 HB2 HG3 hi0 hiz his hib
    clear HB1
    generalize w1.heap.size = b at *
    generalize w2.heap.size = sg at *
    have hbs : b ≠ sg := by omega
    clear hl
    go_loopw [8, 9] (fun ev iv wr => ∃ (k : Nat) (v : PV), ev = .int .i64 v.res ∧ iv = .int .i64 (k : Int) ∧ k ≤ es.length ∧ v.Cnt ∧ (R : Int) = v.nd ∧ VE wr b v ∧ Sn w.heap.size wr sg R v.V ∧ Below w.heap.size w wr) (fun _ iv _ => es.length - (intOf iv).toNat)
    case atStart => exact ⟨0, pV0 (R : Int), by rw [HR0.out], rfl, Nat.zero_le _, HC2.out, rfl, HV3.out, HSN.out, HB3.out⟩
    case round =>
      obtain ⟨k, v, rfl, rfl, hk, hC, hnd, hV, hS, hB⟩ := hrel
      have HC : Hid v.Cnt := hC
      have HND : Hid ((R : Int) = v.nd) := hnd
      have HV : Hid (VE wr b v) := hV
      have HS : Hid (Sn w.heap.size wr sg R v.V) := hS
      have HB : Hid (Below w.heap.size w wr) := hB
      clear hC hnd hV hS hB HC2 HV3 HSN HB3 HR0
      by_cases hlt : k < es.length
      · as_aux_lemma =>
        obtain ⟨g, off, rfl, hg, hd⟩ := HX.out.at hlt
        have HD : Hid (∀ wq, Below w.heap.size w wq → wq.cell? ⟨g, off + k * 2, none⟩ = some (.int .i64 (es.getD k nilVot).id) ∧ wq.cell? ⟨g, off + k * 2 + 1, none⟩ = some (.bool (es.getD k nilVot).yes)) := fun wq hq => by
          obtain ⟨⟨c0, c1⟩, -⟩ := hd.below hg hq
          exact ⟨c0, c1⟩
        obtain ⟨c0, c1⟩ := HD.out wr HB.out
        have hkk : (k : Int) < (es.length : Int) := by omega
        generalize (es.getD k nilVot).id = id at *
        generalize (es.getD k nilVot).yes = yes at *
        have HNX : Hid (∀ (v' : PV) (wn : World), v'.Cnt → (R : Int) = v'.nd → VE wn b v' → Sn w.heap.size wn sg R v'.V → Below w.heap.size w wn → ∀ t : Int, t = v'.res → (∃ (k' : Nat) (v : PV), Value.int .i64 t = .int .i64 v.res ∧ Value.int .i64 ((k : Int) + 1) = .int .i64 (k' : Int) ∧ k' ≤ es.length ∧ v.Cnt ∧ (R : Int) = v.nd ∧ VE wn b v ∧ Sn w.heap.size wn sg R v.V ∧ Below w.heap.size w wn) ∧ es.length - (intOf (Value.int .i64 ((k : Int) + 1))).toNat < es.length - (intOf (Value.int .i64 (k : Int))).toNat) := fun v' wn h1 h2 h3 h4 h5 t ht => ⟨⟨k + 1, v', by rw [ht], by simp, hlt, h1, h2, h3, h4, h5⟩, by simp [intOf]; omega⟩
        have HPUT : Hid (Calls Try.prog 7 #[.pointer (some ⟨b, 0, none⟩), .int .i64 id, .bool yes] wr fun e w' => e = .returned (.bool (v.putY id)) ∧ VE w' b (v.put id yes) ∧ Sn w.heap.size w' sg R v.V ∧ Below w.heap.size w w') := (Put_any HV.out HC.out.ok id yes).mono fun e w' h => ⟨h.1, h.2.1, HS.out.out h.2.2 (fun e => hbs e.symm), HB.out.trans (h.2.2.below HB.out.size (by rintro j rfl; exact hNb))⟩
        have HRES : Hid (∀ (u : PV) (w5 : World), u.Cnt → VE w5 b u → Sn w.heap.size w5 sg R u.V → Below w.heap.size w w5 → Calls Try.prog 8 #[.pointer (some ⟨b, 0, none⟩)] w5 fun e w' => e = .returned (.int .i64 u.res) ∧ VE w' b u ∧ Sn w.heap.size w' sg R u.V ∧ Below w.heap.size w w') := fun u w5 h1 h2 h3 h4 => (Result_any h2 h1.ok).mono fun e w' ⟨h5, n, h6⟩ => by
          subst h6
          exact ⟨h5, h2, h3.out (X := fun _ => False) (Out.drew w5 n) (fun h => h), ⟨h4.os, h4.tape, h4.output, h4.size, h4.block⟩⟩
        have HSTAY : Hid (v.res ≠ 0 → (v.put id yes).res = v.res) := fun h => HC.out.stays id yes h
        have HCP : Hid (v.put id yes).Cnt := HC.out.put id yes
        have HNP : Hid ((R : Int) = (v.put id yes).nd) := by show _ = _; rw [PV.put_nd]; exact HND.out
        clear hd
        by_cases hin : 1 ≤ id ∧ id ≤ (R : Int)
        · obtain ⟨j, hj⟩ : ∃ j : Nat, id = (j : Int) + 1 := ⟨(id - 1).toNat, by omega⟩
          subst hj
          have hjR : j < R := by omega
          have hj1 : ((j : Int) + 1 - 1).toNat = j := by omega
          obtain ⟨s1, s2⟩ := HS.out.cell hjR
          have hd1 : decide (1 ≤ (j : Int) + 1) = true := by simp; omega
          have hd2 : (j : Int) + 1 ≤ (R : Int) := by omega
          have hmin : min ((j : Int) + 1) (R : Int) = (j : Int) + 1 := by omega
          have hmax : max ((j : Int) + 1) 0 = (j : Int) + 1 := by omega
          have hix : (j : Int) + 1 < (R : Int) + 1 := by omega
          have hix0 : 0 ≤ (j : Int) + 1 := by omega
          have htn : ((j : Int) + 1).toNat = j + 1 := by omega
          cases hVj : v.V j with
          | true =>
            have hy : v.putY ((j : Int) + 1) = false := by
              rw [PV.putY, hj1, hVj]; simp
            rw [hy] at HPUT
            have HPE : Hid (v.put ((j : Int) + 1) yes = v) := by show _ = _; rw [PV.put, hy]; rfl
            rw [HPE.out] at HPUT
            rw [hVj] at s1
            simp only [if_true] at s1
            have hne : ((1 : Int) == 0) = false := rfl
            clear hin hy
            by_cases hr : v.res = 0
            · rw [hr]
              go_wp2_with (first
                | (go_at_call 7; refine HPUT.out.mono ?_; rintro r w5 ⟨rfl, hV5, hS5, hB5⟩; have HV5 : Hid (VE _ _ _) := hV5; have HS5 : Hid (Sn _ _ _ _ _) := hS5; have HB5 : Hid (Below _ _ _) := hB5; clear hV5 hS5 hB5)
                | (go_at_call 8; refine (HRES.out v w5 HC.out HV5.out HS5.out HB5.out).mono ?_; rintro r w7 ⟨rfl, hV7, hS7, hB7⟩; rw [hr]; have HV7 : Hid (VE _ _ _) := hV7; have HS7 : Hid (Sn _ _ _ _ _) := hS7; have HB7 : Hid (Below _ _ _) := hB7; clear hV7 hS7 hB7))
              exact HNX.out _ _ HC.out HND.out HV7.out HS7.out HB7.out _ hr.symm
            · have hrn : (v.res != 0) = true := by simpa using hr
              have hrr : (v.res != v.res) = false := by simp
              go_wp2_with (first
                | (go_at_call 7; refine HPUT.out.mono ?_; rintro r w5 ⟨rfl, hV5, hS5, hB5⟩; have HV5 : Hid (VE _ _ _) := hV5; have HS5 : Hid (Sn _ _ _ _ _) := hS5; have HB5 : Hid (Below _ _ _) := hB5; clear hV5 hS5 hB5)
                | (go_at_call 8; refine (HRES.out v w5 HC.out HV5.out HS5.out HB5.out).mono ?_; rintro r w7 ⟨rfl, hV7, hS7, hB7⟩; have HV7 : Hid (VE _ _ _) := hV7; have HS7 : Hid (Sn _ _ _ _ _) := hS7; have HB7 : Hid (Below _ _ _) := hB7; clear hV7 hS7 hB7))
              exact HNX.out _ _ HC.out HND.out HV7.out HS7.out HB7.out _ rfl
          | false =>
            have hy : v.putY ((j : Int) + 1) = true := (v.putY_iff _).2 ⟨by omega, by rw [← HND.out]; omega, by rw [hj1]; exact hVj⟩
            rw [hy] at HPUT
            rw [hVj] at s1
            simp only [Bool.false_eq_true, if_false] at s1
            have HVS : Hid (∀ w5, VE w5 b (v.put ((j : Int) + 1) yes) → Sn w.heap.size w5 sg R v.V → Below w.heap.size w w5 → (w5.cell? ⟨sg, j + 1, none⟩ = some (.int .i64 0) ∧ w5.frozen? ⟨sg, j + 1, none⟩ = false) ∧ VE (w5.setCell ⟨sg, j + 1, none⟩ (.int .i64 1)) b (v.put ((j : Int) + 1) yes) ∧ Sn w.heap.size (w5.setCell ⟨sg, j + 1, none⟩ (.int .i64 1)) sg R (v.put ((j : Int) + 1) yes).V ∧ Below w.heap.size w (w5.setCell ⟨sg, j + 1, none⟩ (.int .i64 1))) := fun w5 h1 h2 h3 => by
              have hO : Out (fun i => i = sg) w5 (w5.setCell ⟨sg, j + 1, none⟩ (.int .i64 1)) := Out.set rfl
              have hc := h2.cell hjR
              rw [hVj] at hc
              refine ⟨hc, h1.out hO hbs, ?_, h3.trans (hO.below h3.size (by rintro i rfl; exact h2.lt.1))⟩
              have hset := h2.set hjR
              have hVV : (v.put ((j : Int) + 1) yes).V = fun i => if i = j then true else v.V i := by
                rw [PV.put, hy]
                simp only [if_true, PV.mark, hj1]
              rw [hVV]
              exact hset
            clear hin hy
            generalize v.put ((j : Int) + 1) yes = u at *
            by_cases hr : v.res = 0
            · rw [hr]
              go_wp2_with (first
                | (go_at_call 7; refine HPUT.out.mono ?_; rintro r w5 ⟨rfl, hV5, hS5, hB5⟩; obtain ⟨⟨q1, q2⟩, hV6, hS6, hB6⟩ := HVS.out w5 hV5 hS5 hB5; have HV6 : Hid (VE _ _ _) := hV6; have HS6 : Hid (Sn _ _ _ _ _) := hS6; have HB6 : Hid (Below _ _ _) := hB6; clear hV5 hS5 hB5 hV6 hS6 hB6)
                | (go_at_call 8; refine (HRES.out u _ HCP.out HV6.out HS6.out HB6.out).mono ?_; rintro r w7 ⟨rfl, hV7, hS7, hB7⟩; have HV7 : Hid (VE _ _ _) := hV7; have HS7 : Hid (Sn _ _ _ _ _) := hS7; have HB7 : Hid (Below _ _ _) := hB7; clear hV7 hS7 hB7))
              exact HNX.out _ _ HCP.out HNP.out HV7.out HS7.out HB7.out _ rfl
            · have hrn : (v.res != 0) = true := by simpa using hr
              have hur := HSTAY.out hr
              have HUR : Hid (u.res = v.res) := hur
              have hrr : (v.res != v.res) = false := by simp
              clear hur
              go_wp2_with (first
                | (go_at_call 7; refine HPUT.out.mono ?_; rintro r w5 ⟨rfl, hV5, hS5, hB5⟩; obtain ⟨⟨q1, q2⟩, hV6, hS6, hB6⟩ := HVS.out w5 hV5 hS5 hB5; have HV6 : Hid (VE _ _ _) := hV6; have HS6 : Hid (Sn _ _ _ _ _) := hS6; have HB6 : Hid (Below _ _ _) := hB6; clear hV5 hS5 hB5 hV6 hS6 hB6)
                | (go_at_call 8; refine (HRES.out u _ HCP.out HV6.out HS6.out HB6.out).mono ?_; rintro r w7 ⟨rfl, hV7, hS7, hB7⟩; rw [HUR.out]; have HV7 : Hid (VE _ _ _) := hV7; have HS7 : Hid (Sn _ _ _ _ _) := hS7; have HB7 : Hid (Below _ _ _) := hB7; clear hV7 hS7 hB7))
              exact HNX.out _ _ HCP.out HNP.out HV7.out HS7.out HB7.out _ HUR.out.symm
        · have hy : v.putY id = false := by
            cases h : v.putY id with
            | false => rfl
            | true => obtain ⟨a, c, -⟩ := (v.putY_iff id).1 h; exact absurd ⟨a, by rw [HND.out]; exact c⟩ hin
          rw [hy] at HPUT
          have HPE : Hid (v.put id yes = v) := by show _ = _; rw [PV.put, hy]; rfl
          rw [HPE.out] at HPUT
          have hrr : (v.res != v.res) = false := by simp
          clear hy
          by_cases hr : v.res = 0
          · rw [hr]
            by_cases h1 : 1 ≤ id
            · have h2 : ¬ id ≤ (R : Int) := by omega
              go_wp2_with (first
                | (go_at_call 7; refine HPUT.out.mono ?_; rintro r w5 ⟨rfl, hV5, hS5, hB5⟩; have HV5 : Hid (VE _ _ _) := hV5; have HS5 : Hid (Sn _ _ _ _ _) := hS5; have HB5 : Hid (Below _ _ _) := hB5; clear hV5 hS5 hB5)
                | (go_at_call 8; refine (HRES.out v w5 HC.out HV5.out HS5.out HB5.out).mono ?_; rintro r w7 ⟨rfl, hV7, hS7, hB7⟩; rw [hr]; have HV7 : Hid (VE _ _ _) := hV7; have HS7 : Hid (Sn _ _ _ _ _) := hS7; have HB7 : Hid (Below _ _ _) := hB7; clear hV7 hS7 hB7))
              exact HNX.out _ _ HC.out HND.out HV7.out HS7.out HB7.out _ hr.symm
            · go_wp2_with (first
                | (go_at_call 7; refine HPUT.out.mono ?_; rintro r w5 ⟨rfl, hV5, hS5, hB5⟩; have HV5 : Hid (VE _ _ _) := hV5; have HS5 : Hid (Sn _ _ _ _ _) := hS5; have HB5 : Hid (Below _ _ _) := hB5; clear hV5 hS5 hB5)
                | (go_at_call 8; refine (HRES.out v w5 HC.out HV5.out HS5.out HB5.out).mono ?_; rintro r w7 ⟨rfl, hV7, hS7, hB7⟩; rw [hr]; have HV7 : Hid (VE _ _ _) := hV7; have HS7 : Hid (Sn _ _ _ _ _) := hS7; have HB7 : Hid (Below _ _ _) := hB7; clear hV7 hS7 hB7))
              exact HNX.out _ _ HC.out HND.out HV7.out HS7.out HB7.out _ hr.symm
          · have hrn : (v.res != 0) = true := by simpa using hr
            by_cases h1 : 1 ≤ id
            · have h2 : ¬ id ≤ (R : Int) := by omega
              go_wp2_with (first
                | (go_at_call 7; refine HPUT.out.mono ?_; rintro r w5 ⟨rfl, hV5, hS5, hB5⟩; have HV5 : Hid (VE _ _ _) := hV5; have HS5 : Hid (Sn _ _ _ _ _) := hS5; have HB5 : Hid (Below _ _ _) := hB5; clear hV5 hS5 hB5)
                | (go_at_call 8; refine (HRES.out v w5 HC.out HV5.out HS5.out HB5.out).mono ?_; rintro r w7 ⟨rfl, hV7, hS7, hB7⟩; have HV7 : Hid (VE _ _ _) := hV7; have HS7 : Hid (Sn _ _ _ _ _) := hS7; have HB7 : Hid (Below _ _ _) := hB7; clear hV7 hS7 hB7))
              exact HNX.out _ _ HC.out HND.out HV7.out HS7.out HB7.out _ rfl
            · go_wp2_with (first
                | (go_at_call 7; refine HPUT.out.mono ?_; rintro r w5 ⟨rfl, hV5, hS5, hB5⟩; have HV5 : Hid (VE _ _ _) := hV5; have HS5 : Hid (Sn _ _ _ _ _) := hS5; have HB5 : Hid (Below _ _ _) := hB5; clear hV5 hS5 hB5)
                | (go_at_call 8; refine (HRES.out v w5 HC.out HV5.out HS5.out HB5.out).mono ?_; rintro r w7 ⟨rfl, hV7, hS7, hB7⟩; have HV7 : Hid (VE _ _ _) := hV7; have HS7 : Hid (Sn _ _ _ _ _) := hS7; have HB7 : Hid (Below _ _ _) := hB7; clear hV7 hS7 hB7))
              exact HNX.out _ _ HC.out HND.out HV7.out HS7.out HB7.out _ rfl
      · as_aux_lemma =>
        obtain rfl : k = es.length := by omega
        clear hk hlt
        generalize wr = w3 at *
        have HCO : Hid (Calls _ _ _ _ _) := Counts_any HV.out
        go_wp2_with fail
        refine HCO.out.mono ?_
        rintro r w4 ⟨rfl, n4, hw4⟩
        have HS4 : Hid (Sn w.heap.size w4 sg R v.V) := by show Sn _ _ _ _ _; rw [hw4]; exact HS.out.out (X := fun _ => False) (Out.drew w3 n4) (fun h => h)
        have HB4 : Hid (Below w.heap.size w w4) := by show Below _ _ _; rw [hw4]; have h4 := HB.out; exact ⟨h4.os, h4.tape, h4.output, h4.size, h4.block⟩
        have HSUM : Hid (v.g + v.r = (cntV v.V R : Int)) := by show _ = _; have := HC.out.sum; rw [← HND.out] at this; simpa using this
        have hg0 := HC.out.ok
        have hgg : 0 ≤ v.g ∧ v.g ≤ 100000 ∧ 0 ≤ v.r ∧ v.r ≤ 100000 := ⟨hg0.g0, hg0.g1, hg0.r0, hg0.r1⟩
        have hwg : IntKind.i64.wrap (v.g + v.r) = v.g + v.r := by rw [IntKind.wrap_i64]; omega
        clear hw4 HS HB HV HCO hg0
        go_wp2
        go_loopw [15, 16] (fun kv iv wr => ∃ j : Nat, kv = .int .i64 (cntV v.V j : Int) ∧ iv = .int .i64 ((j : Int) + 1) ∧ j ≤ R ∧ wr = w4) (fun _ iv _ => R + 1 - (intOf iv).toNat)
        case atStart => exact ⟨0, rfl, rfl, Nat.zero_le _, rfl⟩
        case round =>
          obtain ⟨j, rfl, rfl, hj, hwr⟩ := hrel
          subst wr
          have hcl := cntV_le v.V j
          by_cases hjR : j < R
          · obtain ⟨s1, s2⟩ := HS4.out.cell hjR
            have HCV : Hid (cntV v.V (j + 1) = cntV v.V j + (if v.V j then 1 else 0)) := rfl
            generalize cntV v.V j = q at *
            have hle : (j : Int) + 1 ≤ (R : Int) := by omega
            have hix : (j : Int) + 1 < (R : Int) + 1 := by omega
            have hix0 : 0 ≤ (j : Int) + 1 := by omega
            have htn : ((j : Int) + 1).toNat = j + 1 := by omega
            have hwj : IntKind.i64.wrap ((j : Int) + 1 + 1) = (j : Int) + 1 + 1 := by rw [IntKind.wrap_i64]; omega
            obtain ⟨d, hd, hd1⟩ : ∃ d : Nat, (if v.V j then (1 : Int) else 0) = (d : Int) ∧ cntV v.V (j + 1) = q + d := by
              rw [HCV.out]
              cases v.V j
              · exact ⟨0, rfl, rfl⟩
              · exact ⟨1, rfl, rfl⟩
            rw [hd] at s1
            have hdd : d ≤ 1 := by
              cases hq : v.V j <;> rw [hq] at hd <;> simp at hd <;> omega
            have hwq : IntKind.i64.wrap ((q : Int) + (d : Int)) = (q : Int) + (d : Int) := by rw [IntKind.wrap_i64]; omega
            have HD1 : Hid (cntV v.V (j + 1) = q + d) := hd1
            clear hd hd1 HCV
            go_wp2
            exact ⟨⟨j + 1, by rw [HD1.out]; simp, by simp, hjR, by trivial⟩, by simp [intOf]; omega⟩
          · obtain rfl : j = R := by omega
            have hle : ¬ (j : Int) + 1 ≤ (j : Int) := by omega
            have hfin := HSUM.out
            have hfq : (v.g + v.r == (cntV v.V j : Int)) = true := by simpa using hfin
            clear hfin
            go_wp2
            go_ret
            exact ⟨by first | rfl | (rw [hfq]), HB4.out⟩
  · have hl2 : 300 < es.length := by omega
    go_wp2
    go_ret
    exact ⟨rfl, HB2.out⟩

theorem trackOnce_in (w : World) (z0 : Int) (hb0 : In64 z0) {ea : Option Addr} {ec : Nat} (es : List Vot) (s : VotAts w.heap.size w ea es ∧ es.length ≤ 9223372036854775807) :
    Calls Try.prog 3 #[.int .i64 z0, .slice ea es.length ec] w fun e w' => e = .returned (.bool true) ∧ Below w.heap.size w w' := once_walk z0 hb0 ea ec es w s.1 s.2
end Go.Proofs.Ytdgaimiggejleab
