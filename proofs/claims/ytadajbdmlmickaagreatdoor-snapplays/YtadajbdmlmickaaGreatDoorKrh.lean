/-
  The document's Save. The document's Keep. The document's Load.
-/
import Derived.Test.YtadajbdmlmickaaGreatDoorKrf
import Derived.Test.YtadajbdmlmickaaGreatDoorKrg
import Derived.Test.YtadajbdmlmickaaGreatDoorFm
import Derived.Test.YtadajbdmlmickaaGreatDoorGq
import Derived.Test.YtadajbdmlmickaaGreatDoorFrGr
import Derived.Test.YtadajbdmlmickaaGreatDoorKrd
import Derived.Deep.DeepCutAuto
import Derived.Test.YtadajbdmlmickaaGreatDoorSp
import Derived.Test.YtadajbdmlmickaaGreatDoorLd
namespace Go.Proofs.YtadajbdmlmickaaGreatDoor
open Go.RowKit Go.Shelf
set_option linter.unusedVariables false

set_option maxRecDepth 100000 in
theorem refNone_any (i t : Int) (a : Option Addr) (n cap : Nat) (w : World) : Calls Tryz.prog 71 #[.agg #[.int .i64 i, .int .i64 t, .slice a n cap]] w fun r w' => r = .returned (.bool (decide (i = 0 ∧ t = 0 ∧ n = 0))) ∧ Below w.heap.size w w' := by
  have hB : Hid (Below w.heap.size w (w.alloc (.cells #[.int .i64 i, .int .i64 t, .slice a n cap] 34))) := (Below.refl _ _).alloc (Nat.le_refl _) _
  by_cases hi : i = 0
  · subst hi
    by_cases ht : t = 0
    · subst ht
      by_cases hn : n = 0
      · subst hn
        go_enter Tryz.func71, Tryz.ntmps71
        go_wp2
        go_ret
        exact ⟨by simp, hB.out⟩
      · have hn' : ((n : Int) == 0) = false := by simp; omega
        have HD : Hid (decide ((0 : Int) = 0 ∧ (0 : Int) = 0 ∧ n = 0) = false) := by show _ = _; simp [hn]
        rw [HD.out]
        clear hn
        go_enter Tryz.func71, Tryz.ntmps71
        go_wp2
        go_ret
        exact ⟨rfl, hB.out⟩
    · have ht' : (t == 0) = false := by simpa using ht
      have HD : Hid (decide ((0 : Int) = 0 ∧ t = 0 ∧ n = 0) = false) := by show _ = _; simp [ht]
      rw [HD.out]
      clear ht
      go_enter Tryz.func71, Tryz.ntmps71
      go_wp2
      go_ret
      exact ⟨rfl, hB.out⟩
  · have hi' : (i == 0) = false := by simpa using hi
    have HD : Hid (decide (i = 0 ∧ t = 0 ∧ n = 0) = false) := by show _ = _; simp [hi]
    rw [HD.out]
    clear hi
    go_enter Tryz.func71, Tryz.ntmps71
    go_wp2
    go_ret
    exact ⟨rfl, hB.out⟩

/-- The document's disk behind some writes. -/
structure Sd (S : Nat → Prop) (w1 : World) (B : Nat) (V : World) (q : PD) : Prop where
  out : Out S w1 V
  rds : RDs (grew S w1 V) V B q
  good : Good q
theorem Sd.start {S : Nat → Prop} {w1 : World} {B : Nat} {p : PD} (h : RDs S w1 B p) (hg : Good p) : Sd S w1 B w1 p :=
  ⟨Out.refl _ _, h.mono (fun i hi => .inl hi) (fun i hi => hi.elim (h.inn i) (fun h9 => h9.2)), hg⟩
theorem Sd.step {S : Nat → Prop} {w1 V V' : World} {B : Nat} {q : PD} {x : Nat × PD} {r : Ending} (h : Sd S w1 B V q) (hd : RDone (grew S w1 V) V B x r V') (hg : Good x.2) : r = .returned (.int .i64 (x.1 : Int)) ∧ Sd S w1 B V' x.2 := by
  obtain ⟨hr, hO, hR⟩ := hd
  have hz := h.out.size
  refine ⟨hr, h.out.step hO, hR.mono (fun i hi => ?_) (fun i hi => ?_), hg⟩
  · rcases hi with hi | hi
    · exact grew_mono hO.size hi
    · exact .inr ⟨by omega, hi.2⟩
  · rcases hi with hi | hi
    · have := h.rds.inn i (.inl hi); have := hO.size; omega
    · exact hi.2
theorem Sd.below {S : Nat → Prop} {w1 V V' : World} {B : Nat} {q : PD} (h : Sd S w1 B V q) (hS : ∀ i, S i → i < w1.heap.size) (hB : Below V.heap.size V V') : Sd S w1 B V' q := by
  have hz := h.out.size
  refine ⟨h.out.trans (Y := fun _ => False) (Out.of_below hB) (fun _ hf _ => hf.elim), ?_, h.good⟩
  refine (h.rds.out (X := fun _ => False) (Out.of_below hB) (fun _ _ hf => hf)).mono (fun i hi => grew_mono hB.size hi) (fun i hi => ?_)
  rcases hi with hi | hi
  · have := hS i hi; have := hB.size; omega
  · exact hi.2
theorem Sd.done {S : Nat → Prop} {w w1 V : World} {B : Nat} {q : PD} {e : Nat} {x : Nat × PD} (h : Sd S w1 B V q) (hS : ∀ i, S i → i < w.heap.size) (hB : Below w.heap.size w w1) (hx : x = (e, q)) : RDone S w B x (.returned (.int .i64 (e : Int))) V := by
  subst hx
  have hz := hB.size
  have hz2 := h.out.size
  refine ⟨rfl, (Out.of_below hB).trans h.out (fun i hi _ => hi), h.rds.mono (fun i hi => ?_) (fun i hi => ?_)⟩
  · rcases hi with hi | hi
    · exact .inl hi
    · exact .inr ⟨by omega, hi.2⟩
  · rcases hi with hi | hi
    · have := hS i hi; omega
    · exact hi.2
set_option maxRecDepth 100000 in
set_option maxHeartbeats 8000000 in
theorem refSave_any {S : Nat → Prop} {w : World} {B : Nat} {p : PD} (h : RDs S w B p) (hg : Good p) (i t : Int) (m : List UInt8) (a : Option Addr) (cap : Nat) (M : Nat) (hx : Sl M w (.slice a m.length cap) m) (hM : M ≤ w.heap.size) :
    Calls Tryz.prog 36 #[.pointer (some ⟨B, 0, none⟩), .agg #[.int .i64 i, .int .i64 t, .slice a m.length cap]] w fun r w' => RDone S w B (saveP p i t m) r w' := by
  have HS : Hid (∀ j, S j → j < w.heap.size) := h.inn
  obtain ⟨W0, hW0⟩ : ∃ W0, w.alloc (.cells #[.int .i64 i, .int .i64 t, .slice a m.length cap] 34) = W0 := ⟨_, rfl⟩
  have HW0 : Hid (w.alloc (.cells #[.int .i64 i, .int .i64 t, .slice a m.length cap] 34) = W0) := hW0
  have hB0 : Below w.heap.size w W0 := by rw [← hW0]; exact (Below.refl _ w).alloc (Nat.le_refl _) _
  have hz0 : W0.heap.size = w.heap.size + 1 := by rw [← hW0]; simp
  have hbx : W0.heap[w.heap.size]? = some (.cells #[.int .i64 i, .int .i64 t, .slice a m.length cap] 34 (0, 0)) := by rw [← hW0]; exact heap_alloc_new w _
  obtain ⟨⟨c0, c1, c2⟩, -⟩ := Cd.cells3 hbx
  have HP : Hid (Calls _ _ _ _ _) := Cd.refPutSnap_any i t m a cap W0 M (show Cd.Sl M W0 _ _ from hx.below (hB0.mono hM)) (by omega)
  have HB0 : Hid (Below w.heap.size w W0) := hB0
  have HBX : Hid (∀ w1, Below W0.heap.size W0 w1 → w1.heap[w.heap.size]? = some (.cells #[.int .i64 i, .int .i64 t, .slice a m.length cap] 34 (0, 0))) := fun w1 hB => (hB.block _ (by omega)).trans hbx
  have HRD : Hid (∀ w1, Below w.heap.size w w1 → Sd S w1 B w1 p) := fun w1 hB => Sd.start (h.out (X := fun _ => False) (Out.of_below hB) (fun _ _ hf => hf)) hg
  have HG : Hid (Good p) := hg
  have HTL : Hid (Cd.ckSnap i t m.length = 0 → (Cd.txSnap i t m).length ≤ 1048576) := fun h => by
    have := Cd.txSnap_len i t m
    have := (Cd.ckSnap_ok h).2.2
    omega
  have HCK : Hid (Cd.ckSnap i t m.length = 0 → i = 0 → t = 0 ∧ m.length = 0) := fun h hi => by
    unfold Cd.ckSnap at h
    by_cases hc : i = 0 ∧ t = 0 ∧ m.length = 0
    · exact hc.2
    · rw [if_neg hc, hi, if_pos (by decide)] at h; cases h
  have HNO := fun n W => refNone_any i t a n cap W
  have HIT : Hid (Cd.ckSnap i t m.length = 0 → i ≠ 0 → ((i.toNat : Nat) : Int) = i ∧ i.toNat ≤ 4611686018427387904) := fun h hi => by
    have k1 := (Cd.ckSnap_ok h).1
    have k1' : 0 ≤ i ∧ i ≤ 4611686018427387904 := by simpa [Cd.isNumB] using k1
    omega
  unfold saveP frmE frL
  clear hx hB0 hbx hW0 h hg
  obtain ⟨tx, htx⟩ : ∃ tx, Cd.txSnap i t m = tx := ⟨_, rfl⟩
  rw [htx] at HP HTL ⊢
  obtain ⟨ck, hck⟩ : ∃ ck, Cd.ckSnap i t m.length = ck := ⟨_, rfl⟩
  rw [hck] at HP HTL HCK HIT ⊢
  obtain ⟨ml, hml⟩ : ∃ ml, m.length = ml := ⟨_, rfl⟩
  rw [hml] at HP HW0 c2 HBX HCK ⊢
  clear htx hck hml
  by_cases h0 : ck = 0
  case neg =>
    have hck0 : ((ck : Int) != 0) = true := by rw [bne_iff_ne]; omega
    rw [if_neg h0] at HP
    simp only [ne_eq, h0, not_false_eq_true, if_true]
    go_enter Tryz.func36, Tryz.ntmps36
    go_wp2_with fail
    rw [HW0.out]
    go_wp2_with fail
    refine HP.out.mono ?_
    rintro r w1 ⟨u, rfl, hO1, hB1⟩
    have HB1 : Hid (Below w.heap.size w w1) := HB0.out.trans (hB1.mono (by omega))
    clear hO1 hB1 HP c0 c1 c2 h0
    go_wp2
    go_ret
    exact (HRD.out w1 HB1.out).done HS.out HB1.out rfl
  subst h0
  rw [if_pos rfl] at HP
  by_cases hi : i = 0
  case pos =>
    obtain ⟨ht, hm⟩ := HCK.out rfl hi
    subst hi ht hm
    go_enter Tryz.func36, Tryz.ntmps36
    go_wp2_with fail
    rw [HW0.out]
    go_wp2_with fail
    refine HP.out.mono ?_
    rintro r w1 ⟨u, rfl, hO1, hB1⟩
    have hbx1 := HBX.out w1 hB1
    obtain ⟨⟨d0, d1, d2⟩, -⟩ := Cd.cells3 hbx1
    have HB1 : Hid (Below w.heap.size w w1) := HB0.out.trans (hB1.mono (by omega))
    have HN1 := HNO 0 w1
    clear hO1 hB1 HP c0 c1 c2 hbx1
    go_wp2_with fail
    refine HN1.mono ?_
    rintro r w2 ⟨rfl, hB2⟩
    have HB2 : Hid (Below w.heap.size w w2) := HB1.out.trans (hB2.mono HB1.out.size)
    clear hB2 HN1 d0 d1 d2
    go_wp2
    go_ret
    exact (HRD.out w2 HB2.out).done HS.out HB2.out rfl
  have hpe : Fr.putE tx = 0 := by unfold Fr.putE; rw [if_pos (HTL.out rfl)]
  have hpb : Fr.putB tx = Fr.frameB tx := by unfold Fr.putB; rw [if_pos (HTL.out rfl)]
  have HPE : Hid (Fr.putE tx = 0) := hpe
  have HPB : Hid (Fr.putB tx = Fr.frameB tx) := hpb
  obtain ⟨hit, hin⟩ := HIT.out rfl hi
  have HND : Hid (decide (i = 0 ∧ t = 0 ∧ ml = 0) = false) := by show _ = _; simp [hi]
  obtain ⟨nx, hnx⟩ : ∃ nx, i.toNat = nx := ⟨_, rfl⟩
  have HSV : Hid ((if (if (0 : Nat) ≠ 0 then 0 else if i = 0 then 4 else 0) ≠ 0 then ((if (0 : Nat) ≠ 0 then 0 else if i = 0 then 4 else 0), p) else saveS p (Fr.frameB tx) i.toNat) = saveS p (Fr.frameB tx) nx) := by show _ = _; rw [← hnx]; simp [hi]
  rw [HSV.out]
  rw [hnx] at hit hin
  have HNM := refSnapName_any nx hin
  rw [hit] at HNM
  clear hpe hpb HTL HCK HIT hi hnx HSV
  go_enter Tryz.func36, Tryz.ntmps36
  go_wp2_with fail
  rw [HW0.out]
  go_wp2_with fail
  refine HP.out.mono ?_
  rintro r w1 ⟨u, rfl, hO1, hB1⟩
  have hbx1 := HBX.out w1 hB1
  obtain ⟨⟨d0, d1, d2⟩, -⟩ := Cd.cells3 hbx1
  have HB1 : Hid (Below w.heap.size w w1) := HB0.out.trans (hB1.mono (by omega))
  have HBY : Hid (Below W0.heap.size W0 w1) := hB1
  have HO1 : Hid (Cd.Sl w1.heap.size w1 u tx) := hO1
  have HN1 := HNO ml w1
  rw [HND.out] at HN1
  clear hO1 hB1 HP c0 c1 c2 hbx1 HNO HND
  go_wp2_with fail
  refine HN1.mono ?_
  rintro r w2 ⟨rfl, hB2⟩
  have HBY2 : Hid (Below W0.heap.size W0 w2) := HBY.out.trans (hB2.mono HBY.out.size)
  have HO2 : Hid (Fr.Sl w2.heap.size w2 u tx) := (show Cd.Sl _ _ _ _ from (HO1.out.below hB2).mono hB2.size)
  have HB2 : Hid (Below w.heap.size w w2) := HB1.out.trans (hB2.mono HB1.out.size)
  have HF : Hid (Calls _ _ _ _ _) := Fr.refPut_any w2.heap.size _ tx w2 HO2.out (Nat.le_refl _)
  rw [HPE.out, HPB.out] at HF
  clear hB2 HN1 d0 d1 d2 HBY HO1 HB1 HPE HPB HO2
  go_wp2_with fail
  refine HF.out.mono ?_
  rintro r w3 ⟨v3, rfl, hO3, hB3⟩
  have hz3 : w.heap.size < w3.heap.size := by have := HBY2.out.size; have := hB3.size; omega
  obtain ⟨fa, fc, hsh, -, -⟩ := (show Ow _ _ _ _ from hO3).shape
  subst hsh
  have HB3 : Hid (Below w.heap.size w w3) := HB2.out.trans (hB3.mono HB2.out.size)
  have HX3 : Hid (w3.heap[w.heap.size]? = some (.cells #[.int .i64 i, .int .i64 t, .slice a ml cap] 34 (0, 0))) := HBX.out w3 (HBY2.out.trans (hB3.mono HBY2.out.size))
  have HSX : Hid (SlX S w3 (.slice fa (Fr.frameB tx).length fc) (Fr.frameB tx)) := SlX.of_ow (N := w2.heap.size) (show Ow _ _ _ _ from hO3) (fun g hgb hSg => by have h1 := HS.out g hSg; have h2 := (World.ownsRow.lt hO3 g hgb).1; have := HB2.out.size; omega)
  have HS1 : Hid (Sd S w3 B w3 p) := HRD.out w3 HB3.out
  have HS3 : Hid (∀ j, S j → j < w3.heap.size) := fun j hj => by have := HS.out j hj; omega
  have HAP : Hid (∀ V q, Sd S w3 B V q → Calls Tryz.prog 75 #[.pointer (some ⟨B, 0, none⟩), .string ⟨tmpL.toArray⟩, .slice fa (Fr.frameB tx).length fc] V fun r w' => RDone (grew S w3 V) V B (doAppend q tmpL (Fr.frameB tx)) r w') := fun V q hq => by
    refine refAppend hq.rds hq.good tmpL fa fc _ ?_
    obtain ⟨a', c', e1, e2, e3, e4⟩ := HSX.out
    refine ⟨a', c', e1, e2, e3, e4.imp id ?_⟩
    rintro ⟨b, off, k1, k2, k3, k4⟩
    have hz := hq.out.size
    refine ⟨b, off, k1, fun hgr => hgr.elim k2 (fun h9 => by omega), by omega, fun j hj => ?_⟩
    exact (World.cell?_of_block (a := ⟨b, off + j, none⟩) (hq.out.block b k3 k2)).trans (k4 j hj)
  have HBZ : Hid (∀ V q, Sd S w3 B V q → V.cell? ⟨w.heap.size, 0, none⟩ = some (.int .i64 i)) := fun V q hq => by
    have h1 := (hq.out.block w.heap.size hz3 (fun hs => by have := HS.out _ hs; omega)).trans HX3.out
    simp only [World.cell?, h1]; rfl
  have HRE := refRead HS1.out.rds HS1.out.good tmpL
  generalize hfb : Fr.frameB tx = fb at *
  have HFB : Hid (Fr.frameB tx = fb) := hfb
  clear hfb
  generalize hfl : fb.length = fl at *
  have HRC : Hid ((rdP p tmpL).2 = if (lookP tmpL p.fs).isSome then 0 else 8) := by show _ = _; unfold rdP; cases lookP tmpL p.fs <;> rfl
  generalize (rdP p tmpL).2 = rc at *
  generalize (rdP p tmpL).1 = rb at *
  clear hO3 hB3 HF HSX HBX HX3 HBY2 hfl
  go_upto_if 32 with (go_at_call 42; refine HRE.mono ?_; rintro r w4 ⟨v4, rfl, hO4, hB4⟩; have HS4 : Hid (Sd S w3 B w4 p) := HS1.out.below HS3.out hB4; clear hO4 hB4)
  go_cut [6] (fun v wx => v = .int .i64 ((st1 p).1 : Int) ∧ Hid (Sd S w3 B wx (st1 p).2))
  case first =>
    by_cases hl : (lookP tmpL p.fs).isSome = true
    · have HE : Hid (st1 p = doRemove p tmpL) := by show _ = _; unfold st1; rw [if_pos hl]
      have hrc : rc = 0 := by rw [HRC.out, if_pos hl]
      subst hrc
      have HC := refRemove HS4.out.rds HS4.out.good tmpL
      clear HRE hl HRC
      go_wp2_with (go_at_call 73; refine HC.mono ?_; rintro r w5 hd5; obtain ⟨rfl, hs5⟩ := HS4.out.step hd5 (HS4.out.good.remove tmpL); have HS5 : Hid (Sd S w3 B w5 (doRemove p tmpL).2) := hs5; clear hd5 hs5)
      go_meet
      exact ⟨by rw [HE.out], by show Sd _ _ _ _ _; rw [HE.out]; exact HS5.out⟩
    · have HE : Hid (st1 p = (0, p)) := by show _ = _; unfold st1; rw [if_neg hl]
      have hrc : rc = 8 := by rw [HRC.out, if_neg hl]
      subst hrc
      clear HRE hl HRC
      go_wp2
      go_meet
      exact ⟨by rw [HE.out]; rfl, by show Sd _ _ _ _ _; rw [HE.out]; exact HS4.out⟩
  case rest =>
  obtain ⟨hu, hs⟩ := hcut
  subst hu
  clear HRE HRC HS4
  have HQ : Hid (Sd S w3 B wc (st1 p).2) := hs
  clear hs
  generalize wc = V2 at *
  clear wc
  go_upto_if 36 with fail
  go_cut [6] (fun v wx => v = .int .i64 ((st2 p).1 : Int) ∧ Hid (Sd S w3 B wx (st2 p).2))
  case first =>
    by_cases he : (st1 p).1 = 0
    · have HE : Hid (st2 p = doCreate (st1 p).2 tmpL) := thenP_ok he
      obtain ⟨qq, hqq⟩ : ∃ qq, (st1 p).2 = qq := ⟨_, rfl⟩
      rw [hqq] at HQ HE
      have hq := HQ.out
      have HC := refCreate hq.rds hq.good tmpL (by decide)
      have he0 : ((((st1 p).1 : Nat) : Int) == 0) = true := by rw [he]; rfl
      clear he hqq
      go_wp2_with (go_at_call 74; refine HC.mono ?_; rintro r w5 hd5; obtain ⟨rfl, hs5⟩ := hq.step hd5 (hq.good.create tmpL); have HS5 : Hid (Sd S w3 B w5 (doCreate qq tmpL).2) := hs5; clear hd5 hs5)
      go_meet
      exact ⟨by rw [HE.out], by show Sd _ _ _ _ _; rw [HE.out]; exact HS5.out⟩
    · have HE : Hid (st2 p = st1 p) := thenP_no he
      have he0 : ((((st1 p).1 : Nat) : Int) == 0) = false := by simpa using he
      clear he
      go_wp2
      go_meet
      exact ⟨by rw [HE.out], by show Sd _ _ _ _ _; rw [HE.out]; exact HQ.out⟩
  case rest =>
  obtain ⟨hu, hs⟩ := hcut
  subst hu
  clear HQ
  have HQ : Hid (Sd S w3 B wc (st2 p).2) := hs
  clear hs
  generalize wc = V3 at *
  clear wc
  go_upto_if 40 with fail
  go_cut [6] (fun v wx => v = .int .i64 ((st3 p fb).1 : Int) ∧ Hid (Sd S w3 B wx (st3 p fb).2))
  case first =>
    by_cases he : (st2 p).1 = 0
    · have HE : Hid (st3 p fb = doAppend (st2 p).2 tmpL fb) := thenP_ok he
      obtain ⟨qq, hqq⟩ : ∃ qq, (st2 p).2 = qq := ⟨_, rfl⟩
      rw [hqq] at HQ HE
      have hq := HQ.out
      have HC := HAP.out _ _ hq
      have he0 : ((((st2 p).1 : Nat) : Int) == 0) = true := by rw [he]; rfl
      clear he hqq
      go_wp2_with (go_at_call 75; refine HC.mono ?_; rintro r w5 hd5; obtain ⟨rfl, hs5⟩ := hq.step hd5 (hq.good.append tmpL fb); have HS5 : Hid (Sd S w3 B w5 (doAppend qq tmpL fb).2) := hs5; clear hd5 hs5)
      go_meet
      exact ⟨by rw [HE.out], by show Sd _ _ _ _ _; rw [HE.out]; exact HS5.out⟩
    · have HE : Hid (st3 p fb = st2 p) := thenP_no he
      have he0 : ((((st2 p).1 : Nat) : Int) == 0) = false := by simpa using he
      clear he
      go_wp2
      go_meet
      exact ⟨by rw [HE.out], by show Sd _ _ _ _ _; rw [HE.out]; exact HQ.out⟩
  case rest =>
  obtain ⟨hu, hs⟩ := hcut
  subst hu
  clear HQ
  have HQ : Hid (Sd S w3 B wc (st3 p fb).2) := hs
  clear hs
  generalize wc = V4 at *
  clear wc
  go_upto_if 45 with fail
  go_cut [6] (fun v wx => v = .int .i64 ((st4 p fb).1 : Int) ∧ Hid (Sd S w3 B wx (st4 p fb).2))
  case first =>
    by_cases he : (st3 p fb).1 = 0
    · have HE : Hid (st4 p fb = doSync (st3 p fb).2 tmpL) := thenP_ok he
      obtain ⟨qq, hqq⟩ : ∃ qq, (st3 p fb).2 = qq := ⟨_, rfl⟩
      rw [hqq] at HQ HE
      have hq := HQ.out
      have HC := refSync hq.rds hq.good tmpL
      have he0 : ((((st3 p fb).1 : Nat) : Int) == 0) = true := by rw [he]; rfl
      clear he hqq
      go_wp2_with (go_at_call 76; refine HC.mono ?_; rintro r w5 hd5; obtain ⟨rfl, hs5⟩ := hq.step hd5 (hq.good.sync tmpL); have HS5 : Hid (Sd S w3 B w5 (doSync qq tmpL).2) := hs5; clear hd5 hs5)
      go_meet
      exact ⟨by rw [HE.out], by show Sd _ _ _ _ _; rw [HE.out]; exact HS5.out⟩
    · have HE : Hid (st4 p fb = st3 p fb) := thenP_no he
      have he0 : ((((st3 p fb).1 : Nat) : Int) == 0) = false := by simpa using he
      clear he
      go_wp2
      go_meet
      exact ⟨by rw [HE.out], by show Sd _ _ _ _ _; rw [HE.out]; exact HQ.out⟩
  case rest =>
  obtain ⟨hu, hs⟩ := hcut
  subst hu
  clear HQ
  have HQ : Hid (Sd S w3 B wc (st4 p fb).2) := hs
  clear hs
  generalize wc = V5 at *
  clear wc
  go_upto_if 49 with fail
  go_cut [6] (fun v wx => v = .int .i64 ((saveS p fb nx).1 : Int) ∧ Hid (Sd S w3 B wx (saveS p fb nx).2))
  case first =>
    by_cases he : (st4 p fb).1 = 0
    · have HE : Hid (saveS p fb nx = doRename (st4 p fb).2 tmpL (nmL nx)) := thenP_ok he
      obtain ⟨qq, hqq⟩ : ∃ qq, (st4 p fb).2 = qq := ⟨_, rfl⟩
      rw [hqq] at HQ HE
      have hq := HQ.out
      have HC := refRename hq.rds hq.good tmpL (nmL nx) (by rw [nmL_len]; decide)
      have cz := HBZ.out _ _ hq
      have he0 : ((((st4 p fb).1 : Nat) : Int) == 0) = true := by rw [he]; rfl
      clear he hqq
      go_wp2_with (first | (go_at_call 23; refine (HNM _).mono ?_; rintro r w9 ⟨rfl, rfl⟩) | (go_at_call 77; refine HC.mono ?_; rintro r w5 hd5; obtain ⟨rfl, hs5⟩ := hq.step hd5 (hq.good.rename tmpL (nmL nx)); have HS5 : Hid (Sd S w3 B w5 (doRename qq tmpL (nmL nx)).2) := hs5; clear hd5 hs5))
      go_meet
      exact ⟨by rw [HE.out], by show Sd _ _ _ _ _; rw [HE.out]; exact HS5.out⟩
    · have HE : Hid (saveS p fb nx = st4 p fb) := thenP_no he
      have he0 : ((((st4 p fb).1 : Nat) : Int) == 0) = false := by simpa using he
      clear he
      go_wp2
      go_meet
      exact ⟨by rw [HE.out], by show Sd _ _ _ _ _; rw [HE.out]; exact HQ.out⟩
  case rest =>
  obtain ⟨hu, hs⟩ := hcut
  subst hu
  clear HQ
  go_wp2
  go_ret
  exact Sd.done hs.out HS.out HB3.out (by rw [HFB.out])
end Go.Proofs.YtadajbdmlmickaaGreatDoor
namespace Go.Proofs.YtadajbdmlmickaaGreatDoor
open Go.RowKit Go.Shelf
set_option linter.unusedVariables false

theorem remL_bad (p : PD) (l r : List (List UInt8)) (h : (remL p l).1 ≠ 0) : remL p (l ++ r) = remL p l := by
  rw [remL_app]
  exact thenP_no h
theorem idx_del : ∀ (l : List PF), ((delP tmpL l).map fun f => idxL f.nm).filter (fun n => decide (0 < n)) = (l.map fun f => idxL f.nm).filter (fun n => decide (0 < n))
  | [] => rfl
  | f :: r => by
    have ih := idx_del r
    unfold delP at ih ⊢
    by_cases h : f.nm = tmpL
    · have hz : idxL f.nm = 0 := by rw [h]; exact idx_tmp
      rw [List.filter_cons, if_neg (by simp [h]), ih, List.map_cons, List.filter_cons, if_neg (by simp [hz])]
    · rw [List.filter_cons, if_pos (by simp [h]), List.map_cons, List.filter_cons, List.map_cons, List.filter_cons, ih]
theorem list_rem {p : PD} (h : (doRemove p tmpL).1 = 0) : listP (doRemove p tmpL).2 = listP p := by
  unfold doRemove at h ⊢
  split at h
  · cases h
  rename_i h1
  rw [if_neg h1]
  split at h
  · cases h
  rename_i h2
  rw [if_neg h2]
  split at h
  · cases h
  rename_i h3
  rw [if_neg h3]
  exact idx_del _
theorem Sd.comp {S : Nat → Prop} {w V1 w1 V : World} {B : Nat} {p q : PD} (h : Sd S w B V1 p) (hS : ∀ i, S i → i < w.heap.size) (hB : Below V1.heap.size V1 w1) (h2 : Sd (grew S w V1) w1 B V q) : Sd S w B V q := by
  have z1 := h.out.size
  have z2 := hB.size
  have z3 := h2.out.size
  refine ⟨(h.out.trans (Y := fun _ => False) (Out.of_below hB) (fun _ hf _ => hf.elim)).trans h2.out (fun i hi hl => hi.elim id (fun h9 => by omega)), h2.rds.mono (fun i hi => ?_) (fun i hi => ?_), h2.good⟩
  · rcases hi with (hi | hi) | hi
    · exact .inl hi
    · exact .inr ⟨hi.1, by omega⟩
    · exact .inr ⟨by omega, hi.2⟩
  · rcases hi with hi | hi
    · have := hS i hi; omega
    · exact hi.2
set_option maxRecDepth 100000 in
set_option maxHeartbeats 8000000 in
theorem refKeep_any {S : Nat → Prop} {w : World} {B : Nat} {p : PD} (h : RDs S w B p) (hg : Good p) (n : Nat) (hn0 : 1 ≤ n) (hn : n ≤ 9223372036854775807) :
    Calls Tryz.prog 37 #[.pointer (some ⟨B, 0, none⟩), .int .i64 (n : Int)] w fun r w' => r = .returned (.tuple #[.int .i64 ((keepN (remL p (spareL p n)).1 (spareL p n).length : Nat) : Int), .int .i64 ((remL p (spareL p n)).1 : Int)]) ∧ Sd S w B w' (remL p (spareL p n)).2 := by
  have HS : Hid (∀ j, S j → j < w.heap.size) := h.inn
  have HS1 : Hid (Sd S w B w p) := Sd.start h hg
  have HRE := refRead h hg tmpL
  have HRC : Hid ((rdP p tmpL).2 = if (lookP tmpL p.fs).isSome then 0 else 8) := by show _ = _; unfold rdP; cases lookP tmpL p.fs <;> rfl
  have hnb : ¬ ((n : Int) < 1) := by omega
  obtain ⟨li, hli⟩ : ∃ li, listP p = li := ⟨_, rfl⟩
  have HLP : Hid (listP p = li) := hli
  have HSPA : Hid (spareL p n = (if (lookP tmpL p.fs).isSome then [tmpL] else []) ++ (li.take (li.length - n)).map nmL) := by show _ = _; unfold spareL; rw [hli]
  have HLR : Hid ((doRemove p tmpL).1 = 0 → listP (doRemove p tmpL).2 = li) := fun h => by rw [list_rem h, hli]
  generalize (rdP p tmpL).2 = rc at *
  generalize (rdP p tmpL).1 = rb at *
  clear h hli
  by_cases hl : (lookP tmpL p.fs).isSome = true
  · rw [hl] at HSPA
    have HSPA : Hid (spareL p n = [tmpL] ++ (li.take (li.length - n)).map nmL) := HSPA.out
    have hrc : rc = 0 := by rw [HRC.out, if_pos hl]
    subst hrc
    have HC : Hid (∀ V q, Sd S w B V q → Calls Tryz.prog 73 #[.pointer (some ⟨B, 0, none⟩), .string ⟨tmpL.toArray⟩] V fun r w' => RDone (grew S w V) V B (doRemove q tmpL) r w') := fun V q hq => refRemove hq.rds hq.good tmpL
    have HRM : Hid (remL p [tmpL] = doRemove p tmpL) := by
      show thenP (doRemove p tmpL) _ = _
      unfold thenP
      split
      · rename_i h9
        show (0, _) = _
        rw [← h9]
      · rfl
    have HGY : Good (doRemove p tmpL).2 := HS1.out.good.remove _
    obtain ⟨y, hy⟩ : ∃ y, doRemove p tmpL = y := ⟨_, rfl⟩
    have HCY : Hid (∀ V, Sd S w B V p → Calls Tryz.prog 73 #[.pointer (some ⟨B, 0, none⟩), .string ⟨tmpL.toArray⟩] V fun r w' => RDone (grew S w V) V B y r w') := fun V hq => by rw [← hy]; exact HC.out V p hq
    rw [hy] at HGY HLR HRM
    clear hl HRC hy HC
    obtain ⟨e, q⟩ := y
    simp only at HGY HLR
    by_cases h0 : e = 0
    case neg =>
      have h0' : ((e : Int) != 0) = true := by rw [bne_iff_ne]; omega
      have HFIN : Hid (remL p (spareL p n) = (e, q)) := by
        show _ = _
        rw [HSPA.out, remL_bad _ _ _ (by rw [HRM.out]; exact h0), HRM.out]
      go_enter Tryz.func37, Tryz.ntmps37
      go_wp2_with (first
        | (go_at_call 42; refine HRE.mono ?_; rintro r w4 ⟨v4, rfl, hO4, hB4⟩; have HS4 : Hid (Sd S w B w4 p) := HS1.out.below HS.out hB4; have HC4 := HCY.out w4 HS4.out; clear hO4 hB4)
        | (go_at_call 73; refine HC4.mono ?_; rintro r w5 hd5; obtain ⟨rfl, hs5⟩ := HS4.out.step hd5 HGY; have HS5 : Hid (Sd S w B w5 q) := hs5; clear hd5 hs5))
      go_ret2
      rw [HFIN.out]
      refine ⟨?_, HS5.out⟩
      unfold keepN
      simp only [if_neg h0]
      rfl
    subst h0
    have hlq := HLR.out rfl
    obtain ⟨T, hT⟩ : ∃ T : List (List UInt8), T = [tmpL] := ⟨_, rfl⟩
    have HT : Hid (remL p T = (0, q)) := by show _ = _; rw [hT]; exact HRM.out
    have HTL : Hid (T.length = 1) := by show _ = _; rw [hT]; rfl
    have HSPL : Hid (spareL p n = T ++ (li.take (li.length - n)).map nmL) := by show _ = _; rw [hT]; exact HSPA.out
    clear hT HRM HSPA HLR
    go_enter Tryz.func37, Tryz.ntmps37
    go_upto_region 10 with (first
        | (go_at_call 42; refine HRE.mono ?_; rintro r w4 ⟨v4, rfl, hO4, hB4⟩; have HS4 : Hid (Sd S w B w4 p) := HS1.out.below HS.out hB4; have HC4 := HCY.out w4 HS4.out; clear hO4 hB4)
        | (go_at_call 73; refine HC4.mono ?_; rintro r V1 hd5; obtain ⟨rfl, hs5⟩ := HS4.out.step hd5 HGY; have HQ : Hid (Sd S w B V1 q) := hs5; clear hd5 hs5))
    clear HS4 HC4 HCY HRE HS1 HGY
    have HLI : Hid (listP q = li) := hlq
    have HSL := refListS HQ.out.rds HQ.out.good
    have HMX : Hid (∀ x ∈ li, x ≤ 4611686018427387904) := fun x hx => (list_mem (p := q) (by rw [HLI.out]; exact hx)).2.1
    have hln : li.length ≤ 256 := by
      obtain ⟨vv, fs, l, hd⟩ := HQ.out.rds
      have := pick_len (q.fs.map PF.nm); rw [← pick_list, HLI.out] at this; have := hd.rd.len; have := hd.rd.fw; simp at *; omega
    rw [HLI.out] at HSL
    go_wp2_with (go_at_call 17; refine HSL.mono ?_; rintro r w1 ⟨a1, c1, rfl, hO1, hB1⟩; have HO1 : Hid (In.Ow V1.heap.size w1 (.slice a1 li.length c1) (ixI li)) := hO1; have HS1 : Hid (Sd (grew S w V1) w1 B w1 q) := Sd.start (HQ.out.rds.out (X := fun _ => False) (Out.of_below hB1) (fun _ _ hf => hf)) HQ.out.good; have HB1 : Hid (Below V1.heap.size V1 w1) := hB1; clear hO1 hB1)
    go_loopw [6, 11] (fun gv iv wr => ∃ (k : Nat) (qk : PD), gv = .int .i64 ((1 + k : Nat) : Int) ∧ iv = .int .i64 (k : Int) ∧ k ≤ li.length - n ∧ remL p (T ++ (((li.take (li.length - n)).map nmL).take k)) = (0, qk) ∧ Sd (grew S w V1) w1 B wr qk) (fun _ iv _ => (li.length - n) - (intOf iv).toNat)
    case atStart => exact ⟨0, q, by go_num, rfl, Nat.zero_le _, by rw [List.take_zero, List.append_nil]; exact HT.out, HS1.out⟩
    case round =>
      obtain ⟨k, qk, rfl, rfl, hk, hR, hsd⟩ := hrel
      have HR : Hid (remL p (T ++ (((li.take (li.length - n)).map nmL).take k)) = (0, qk)) := hR
      have HSD : Hid (Sd (grew S w V1) w1 B wr qk) := hsd
      clear hR hsd
      by_cases hlt : k < li.length - n
      · have k0 : (0 : Int) ≤ (k : Int) := by omega
        have k1 : (k : Int) < (li.length : Int) := by omega
        have k3 : (k : Int) < (li.length : Int) - (n : Int) := by omega
        have k2 : k < li.length := by omega
        obtain ⟨x, hx⟩ : ∃ x, li.getD k 0 = x := ⟨_, rfl⟩
        have hxm : x ∈ li := by
          rw [← hx, List.getD_eq_getElem?_getD, List.getElem?_eq_getElem k2]
          exact List.getElem_mem _
        have hx4 := HMX.out x hxm
        have hcell : ∃ g, a1 = some ⟨g, 0, none⟩ ∧ V1.heap.size ≤ g ∧ g < w1.heap.size ∧ w1.cell? ⟨g, k, none⟩ = some (.int .i64 (x : Int)) := by
          obtain ⟨a', c', e, q1, q2, q3⟩ := HO1.out.sl (Nat.le_refl _)
          injection e with e1 e2 e3
          subst e1
          rcases q3 with q3 | ⟨g, off, hga, hgl, hc⟩
          · have := congrArg List.length q3; simp [ixI] at this; rw [this] at k2; simp at k2
          · have hoff : off = 0 ∧ V1.heap.size ≤ g := by
              rcases HO1.out.2 with ⟨e1, -⟩ | ⟨g', cap', cur, e1, e2, -⟩
              · rw [hga] at e1; injection e1 with e1; cases e1
              · rw [hga] at e1; injection e1 with e1; cases e1; exact ⟨rfl, e2⟩
            obtain ⟨hoff, hgN⟩ := hoff
            subst hoff
            refine ⟨g, hga, hgN, hgl, ?_⟩
            have := hc k (by simp [ixI]; omega)
            rw [Nat.zero_add] at this
            rw [this]
            congr 2
            rw [← hx, List.getD_eq_getElem?_getD]
            unfold ixI
            rw [List.getElem?_map, List.getElem?_eq_getElem k2]
            rfl
        obtain ⟨g, hga, hgN, hgl, hc⟩ := hcell
        subst hga
        have hc' : wr.cell? ⟨g, k, none⟩ = some (.int .i64 (x : Int)) := (World.cell?_of_block (a := ⟨g, k, none⟩) (HSD.out.out.block g hgl (fun hs => hs.elim (fun h => by have := HS.out g h; have := HQ.out.out.size; omega) (fun h => by omega)))).trans hc
        have HNM := refSnapName_any x hx4 wr
        have HRM := refRemove HSD.out.rds HSD.out.good (nmL x)
        have HST : Hid (remL p (T ++ (((li.take (li.length - n)).map nmL).take (k + 1))) = doRemove qk (nmL x)) := by
          show _ = _
          have hkm : k < ((li.take (li.length - n)).map nmL).length := by rw [List.length_map, List.length_take]; omega
          have hgx : ((li.take (li.length - n)).map nmL)[k] = nmL x := by
            rw [List.getElem_map, List.getElem_take, ← hx, List.getD_eq_getElem?_getD, List.getElem?_eq_getElem k2]; rfl
          rw [List.take_succ_eq_append_getElem hkm, ← List.append_assoc, remL_snoc, HR.out, hgx]
          rfl
        have hgl' : g < wr.heap.size := Nat.lt_of_lt_of_le hgl HSD.out.out.size
        obtain ⟨y, hy⟩ : ∃ y, doRemove qk (nmL x) = y := ⟨_, rfl⟩
        have HGY : Good y.2 := by rw [← hy]; exact HSD.out.good.remove _
        rw [hy] at HRM HST
        clear hx hxm hx4 hc hgl hgN hy k2
        obtain ⟨e, y2⟩ := y
        simp only at HGY
        by_cases h0 : e = 0
        · subst h0
          go_wp2_with (first
            | (go_at_call 23; refine HNM.mono ?_; rintro r w8 ⟨rfl, rfl⟩)
            | (go_at_call 73; refine HRM.mono ?_; rintro r w5 hd5; obtain ⟨rfl, hs5⟩ := HSD.out.step hd5 HGY; have HS5 : Hid (Sd (grew S w V1) w1 B w5 y2) := hs5; clear hd5 hs5))
          exact ⟨⟨k + 1, y2, by go_num, by go_num, by omega, HST.out, HS5.out⟩, by simp [intOf]; omega⟩
        · have h0' : ((e : Int) != 0) = true := by rw [bne_iff_ne]; omega
          have HFIN : Hid (remL p (spareL p n) = (e, y2)) := by
            show _ = _
            have hsp : spareL p n = (T ++ (((li.take (li.length - n)).map nmL).take (k + 1))) ++ (((li.take (li.length - n)).map nmL).drop (k + 1)) := by rw [HSPL.out, List.append_assoc, List.take_append_drop]
            rw [hsp, remL_bad _ _ _ (by rw [HST.out]; exact h0), HST.out]
          go_wp2_with (first
            | (go_at_call 23; refine HNM.mono ?_; rintro r w8 ⟨rfl, rfl⟩)
            | (go_at_call 73; refine HRM.mono ?_; rintro r w5 hd5; obtain ⟨rfl, hs5⟩ := HSD.out.step hd5 HGY; have HS5 : Hid (Sd (grew S w V1) w1 B w5 y2) := hs5; clear hd5 hs5))
          go_ret2
          rw [HFIN.out]
          refine ⟨?_, HQ.out.comp HS.out HB1.out HS5.out⟩
          unfold keepN
          simp only [if_neg h0]
          rfl
      · have hke : k = li.length - n := by omega
        have k3 : ¬ (k : Int) < (li.length : Int) - (n : Int) := by omega
        have HFIN : Hid (remL p (spareL p n) = (0, qk)) := by
          show _ = _
          have ht : ((li.take (li.length - n)).map nmL).take k = (li.take (li.length - n)).map nmL := List.take_of_length_le (by rw [List.length_map, List.length_take]; omega)
          have := HR.out
          rw [ht] at this
          rw [HSPL.out]
          exact this
        have HFL : Hid ((spareL p n).length = 1 + k) := by
          show _ = _
          rw [HSPL.out, List.length_append, List.length_map, List.length_take, HTL.out]
          omega
        clear hke
        go_wp2
        go_ret2
        rw [HFIN.out, HFL.out]
        first | exact ⟨rfl, HQ.out.comp HS.out HB1.out HSD.out⟩ | (rw [Nat.zero_add]; exact ⟨rfl, HQ.out.comp HS.out HB1.out HSD.out⟩)
  · have HSPA : Hid (spareL p n = [] ++ (li.take (li.length - n)).map nmL) := by show _ = _; rw [HSPA.out, if_neg hl]
    have hrc : rc = 8 := by rw [HRC.out, if_neg hl]
    subst hrc
    have hlq := HLP.out
    obtain ⟨T, hT⟩ : ∃ T : List (List UInt8), T = [] := ⟨_, rfl⟩
    obtain ⟨q, hq⟩ : ∃ q, p = q := ⟨_, rfl⟩
    have HT : Hid (remL p T = (0, q)) := by show _ = _; rw [hT, hq]; rfl
    have HTL : Hid (T.length = 0) := by show _ = _; rw [hT]; rfl
    have HSPL : Hid (spareL p n = T ++ (li.take (li.length - n)).map nmL) := by show _ = _; rw [hT]; exact HSPA.out
    rw [hq] at hlq
    have HQ0 : Hid (∀ V, Below w.heap.size w V → Sd S w B V q) := fun V hB => by rw [← hq]; exact HS1.out.below HS.out hB
    clear hT HSPA HLR hl HRC hq
    go_enter Tryz.func37, Tryz.ntmps37
    go_upto_region 10 with (go_at_call 42; refine HRE.mono ?_; rintro r V1 ⟨v4, rfl, hO4, hB4⟩; have HQ : Hid (Sd S w B V1 q) := HQ0.out V1 hB4; clear hO4 hB4)
    clear HRE HS1 HQ0
    have HLI : Hid (listP q = li) := hlq
    have HSL := refListS HQ.out.rds HQ.out.good
    have HMX : Hid (∀ x ∈ li, x ≤ 4611686018427387904) := fun x hx => (list_mem (p := q) (by rw [HLI.out]; exact hx)).2.1
    have hln : li.length ≤ 256 := by
      obtain ⟨vv, fs, l, hd⟩ := HQ.out.rds
      have := pick_len (q.fs.map PF.nm); rw [← pick_list, HLI.out] at this; have := hd.rd.len; have := hd.rd.fw; simp at *; omega
    rw [HLI.out] at HSL
    go_wp2_with (go_at_call 17; refine HSL.mono ?_; rintro r w1 ⟨a1, c1, rfl, hO1, hB1⟩; have HO1 : Hid (In.Ow V1.heap.size w1 (.slice a1 li.length c1) (ixI li)) := hO1; have HS1 : Hid (Sd (grew S w V1) w1 B w1 q) := Sd.start (HQ.out.rds.out (X := fun _ => False) (Out.of_below hB1) (fun _ _ hf => hf)) HQ.out.good; have HB1 : Hid (Below V1.heap.size V1 w1) := hB1; clear hO1 hB1)
    go_loopw [6, 11] (fun gv iv wr => ∃ (k : Nat) (qk : PD), gv = .int .i64 ((0 + k : Nat) : Int) ∧ iv = .int .i64 (k : Int) ∧ k ≤ li.length - n ∧ remL p (T ++ (((li.take (li.length - n)).map nmL).take k)) = (0, qk) ∧ Sd (grew S w V1) w1 B wr qk) (fun _ iv _ => (li.length - n) - (intOf iv).toNat)
    case atStart => exact ⟨0, q, by go_num, rfl, Nat.zero_le _, by rw [List.take_zero, List.append_nil]; exact HT.out, HS1.out⟩
    case round =>
      obtain ⟨k, qk, rfl, rfl, hk, hR, hsd⟩ := hrel
      have HR : Hid (remL p (T ++ (((li.take (li.length - n)).map nmL).take k)) = (0, qk)) := hR
      have HSD : Hid (Sd (grew S w V1) w1 B wr qk) := hsd
      clear hR hsd
      by_cases hlt : k < li.length - n
      · have k0 : (0 : Int) ≤ (k : Int) := by omega
        have k1 : (k : Int) < (li.length : Int) := by omega
        have k3 : (k : Int) < (li.length : Int) - (n : Int) := by omega
        have k2 : k < li.length := by omega
        obtain ⟨x, hx⟩ : ∃ x, li.getD k 0 = x := ⟨_, rfl⟩
        have hxm : x ∈ li := by
          rw [← hx, List.getD_eq_getElem?_getD, List.getElem?_eq_getElem k2]
          exact List.getElem_mem _
        have hx4 := HMX.out x hxm
        have hcell : ∃ g, a1 = some ⟨g, 0, none⟩ ∧ V1.heap.size ≤ g ∧ g < w1.heap.size ∧ w1.cell? ⟨g, k, none⟩ = some (.int .i64 (x : Int)) := by
          obtain ⟨a', c', e, q1, q2, q3⟩ := HO1.out.sl (Nat.le_refl _)
          injection e with e1 e2 e3
          subst e1
          rcases q3 with q3 | ⟨g, off, hga, hgl, hc⟩
          · have := congrArg List.length q3; simp [ixI] at this; rw [this] at k2; simp at k2
          · have hoff : off = 0 ∧ V1.heap.size ≤ g := by
              rcases HO1.out.2 with ⟨e1, -⟩ | ⟨g', cap', cur, e1, e2, -⟩
              · rw [hga] at e1; injection e1 with e1; cases e1
              · rw [hga] at e1; injection e1 with e1; cases e1; exact ⟨rfl, e2⟩
            obtain ⟨hoff, hgN⟩ := hoff
            subst hoff
            refine ⟨g, hga, hgN, hgl, ?_⟩
            have := hc k (by simp [ixI]; omega)
            rw [Nat.zero_add] at this
            rw [this]
            congr 2
            rw [← hx, List.getD_eq_getElem?_getD]
            unfold ixI
            rw [List.getElem?_map, List.getElem?_eq_getElem k2]
            rfl
        obtain ⟨g, hga, hgN, hgl, hc⟩ := hcell
        subst hga
        have hc' : wr.cell? ⟨g, k, none⟩ = some (.int .i64 (x : Int)) := (World.cell?_of_block (a := ⟨g, k, none⟩) (HSD.out.out.block g hgl (fun hs => hs.elim (fun h => by have := HS.out g h; have := HQ.out.out.size; omega) (fun h => by omega)))).trans hc
        have HNM := refSnapName_any x hx4 wr
        have HRM := refRemove HSD.out.rds HSD.out.good (nmL x)
        have HST : Hid (remL p (T ++ (((li.take (li.length - n)).map nmL).take (k + 1))) = doRemove qk (nmL x)) := by
          show _ = _
          have hkm : k < ((li.take (li.length - n)).map nmL).length := by rw [List.length_map, List.length_take]; omega
          have hgx : ((li.take (li.length - n)).map nmL)[k] = nmL x := by
            rw [List.getElem_map, List.getElem_take, ← hx, List.getD_eq_getElem?_getD, List.getElem?_eq_getElem k2]; rfl
          rw [List.take_succ_eq_append_getElem hkm, ← List.append_assoc, remL_snoc, HR.out, hgx]
          rfl
        have hgl' : g < wr.heap.size := Nat.lt_of_lt_of_le hgl HSD.out.out.size
        obtain ⟨y, hy⟩ : ∃ y, doRemove qk (nmL x) = y := ⟨_, rfl⟩
        have HGY : Good y.2 := by rw [← hy]; exact HSD.out.good.remove _
        rw [hy] at HRM HST
        clear hx hxm hx4 hc hgl hgN hy k2
        obtain ⟨e, y2⟩ := y
        simp only at HGY
        by_cases h0 : e = 0
        · subst h0
          go_wp2_with (first
            | (go_at_call 23; refine HNM.mono ?_; rintro r w8 ⟨rfl, rfl⟩)
            | (go_at_call 73; refine HRM.mono ?_; rintro r w5 hd5; obtain ⟨rfl, hs5⟩ := HSD.out.step hd5 HGY; have HS5 : Hid (Sd (grew S w V1) w1 B w5 y2) := hs5; clear hd5 hs5))
          exact ⟨⟨k + 1, y2, by go_num, by go_num, by omega, HST.out, HS5.out⟩, by simp [intOf]; omega⟩
        · have h0' : ((e : Int) != 0) = true := by rw [bne_iff_ne]; omega
          have HFIN : Hid (remL p (spareL p n) = (e, y2)) := by
            show _ = _
            have hsp : spareL p n = (T ++ (((li.take (li.length - n)).map nmL).take (k + 1))) ++ (((li.take (li.length - n)).map nmL).drop (k + 1)) := by rw [HSPL.out, List.append_assoc, List.take_append_drop]
            rw [hsp, remL_bad _ _ _ (by rw [HST.out]; exact h0), HST.out]
          go_wp2_with (first
            | (go_at_call 23; refine HNM.mono ?_; rintro r w8 ⟨rfl, rfl⟩)
            | (go_at_call 73; refine HRM.mono ?_; rintro r w5 hd5; obtain ⟨rfl, hs5⟩ := HSD.out.step hd5 HGY; have HS5 : Hid (Sd (grew S w V1) w1 B w5 y2) := hs5; clear hd5 hs5))
          go_ret2
          rw [HFIN.out]
          refine ⟨?_, HQ.out.comp HS.out HB1.out HS5.out⟩
          unfold keepN
          simp only [if_neg h0]
          rfl
      · have hke : k = li.length - n := by omega
        have k3 : ¬ (k : Int) < (li.length : Int) - (n : Int) := by omega
        have HFIN : Hid (remL p (spareL p n) = (0, qk)) := by
          show _ = _
          have ht : ((li.take (li.length - n)).map nmL).take k = (li.take (li.length - n)).map nmL := List.take_of_length_le (by rw [List.length_map, List.length_take]; omega)
          have := HR.out
          rw [ht] at this
          rw [HSPL.out]
          exact this
        have HFL : Hid ((spareL p n).length = 0 + k) := by
          show _ = _
          rw [HSPL.out, List.length_append, List.length_map, List.length_take, HTL.out]
          omega
        clear hke
        go_wp2
        go_ret2
        rw [HFIN.out, HFL.out]
        first | exact ⟨rfl, HQ.out.comp HS.out HB1.out HSD.out⟩ | (rw [Nat.zero_add]; exact ⟨rfl, HQ.out.comp HS.out HB1.out HSD.out⟩)
end Go.Proofs.YtadajbdmlmickaaGreatDoor
namespace Go.Proofs.YtadajbdmlmickaaGreatDoor
open Go.RowKit Go.Shelf
set_option linter.unusedVariables false

theorem Fr.getFront_len (r : List UInt8) : (Fr.getFront r).1.length ≤ 1048576 := by
  unfold Fr.getFront
  repeat' split
  all_goals simp
  all_goals omega
theorem Fr.oneOf_small (d : List UInt8) : (Fr.oneOf d).1.length ≤ 1048576 := by
  have h1 := Fr.getFront_len (d.drop (0 : Int).toNat)
  unfold Fr.oneOf Fr.getAt
  repeat' split
  all_goals first | exact h1 | simp
theorem whole_rdP (p : PD) (n : Nat) : wholeP p n = snapD n (rdP p (nmL n)).1 := by
  unfold wholeP rdP
  cases lookP (nmL n) p.fs with
  | none =>
    show none = snapD n []
    unfold snapD
    rw [if_neg (by intro h; exact absurd h.1 (by decide))]
  | some f => rfl
/-- What Load tells. -/
def LdS (w : World) (x : (Nat × Nat × List UInt8) × Nat × Nat) (r : Ending) (w' : World) : Prop := ∃ u, r = .returned (.tuple #[.agg #[.int .i64 (x.1.1 : Int), .int .i64 (x.1.2.1 : Int), u], .int .i64 (x.2.1 : Int), .int .i64 (x.2.2 : Int)]) ∧ Sl w'.heap.size w' u x.1.2.2 ∧ Below w.heap.size w w'
set_option maxRecDepth 100000 in
set_option maxHeartbeats 8000000 in
theorem refLoad_any {S : Nat → Prop} {w : World} {B : Nat} {p : PD} (h : RDs S w B p) (hg : Good p) :
    Calls Tryz.prog 13 #[.pointer (some ⟨B, 0, none⟩)] w fun r w' => LdS w (loadS p) r w' := by
  obtain ⟨W0, hW0⟩ : ∃ W0, w.alloc (.cells #[.int .i64 0, .int .i64 0, .slice none 0 0] 34) = W0 := ⟨_, rfl⟩
  have HW0 : Hid (w.alloc (.cells #[.int .i64 0, .int .i64 0, .slice none 0 0] 34) = W0) := hW0
  have hB0 : Below w.heap.size w W0 := by rw [← hW0]; exact (Below.refl _ w).alloc (Nat.le_refl _) _
  have hz0 : w.heap.size < W0.heap.size := by rw [← hW0]; simp
  have hbx : W0.heap[w.heap.size]? = some (.cells #[.int .i64 0, .int .i64 0, .slice none 0 0] 34 (0, 0)) := by rw [← hW0]; exact heap_alloc_new w _
  have HB0 : Hid (Below w.heap.size w W0) := hB0
  have HR : Hid (∀ V, Below W0.heap.size W0 V → V.heap[w.heap.size]? = some (.cells #[.int .i64 0, .int .i64 0, .slice none 0 0] 34 (0, 0)) ∧ w.heap.size < V.heap.size) := fun V hV => ⟨(hV.block _ (by omega)).trans hbx, by have := hV.size; omega⟩
  have HD : Hid (∀ V, Below w.heap.size w V → RDs S V B p) := fun V hV => h.out (X := fun _ => False) (Out.of_below hV) (fun _ _ hf => hf)
  have HG : Hid (Good p) := hg
  have HL : Hid (Calls _ _ _ _ _) := refListS (HD.out _ hB0) hg
  have HMX : Hid (∀ x ∈ listP p, x ≤ 4611686018427387904) := fun x hx => (list_mem hx).2.1
  have HLN : Hid ((listP p).length ≤ 256) := by
    obtain ⟨vv, fs, l, hd⟩ := h
    have := pick_len (p.fs.map PF.nm); rw [← pick_list] at this; have := hd.rd.len; have := hd.rd.fw; show _ ≤ _; simp at *; omega
  have HLD : Hid (loadS p = loadL p (listP p).reverse 0) := rfl
  obtain ⟨x, hx⟩ : ∃ x, loadS p = x := ⟨_, rfl⟩
  rw [hx] at HLD ⊢
  obtain ⟨li, hli⟩ : ∃ li, listP p = li := ⟨_, rfl⟩
  rw [hli] at HL HMX HLN HLD
  clear h hg hB0 hbx hW0 hx hli
  go_enter Tryz.func13, Tryz.ntmps13
  go_wp2_with fail
  rw [HW0.out]
  refine HL.out.mono ?_
  rintro r w1 ⟨a1, c1, rfl, hO1, hB1⟩
  have HO1 : Hid (In.Ow W0.heap.size w1 (.slice a1 li.length c1) (ixI li)) := hO1
  have HB1 : Hid (Below W0.heap.size W0 w1) := hB1
  have hL256 := HLN.out
  clear hO1 hB1 HL
  go_wp2_with fail
  go_loopw [6] (fun iv wr => ∃ k : Nat, iv = .int .i64 ((li.length : Int) - 1 - (k : Int)) ∧ k ≤ li.length ∧ Below w1.heap.size w1 wr ∧ ∀ j, j < k → wholeP p (li.reverse.getD j 0) = none) (fun iv _ => (intOf iv + 1).toNat)
  case atStart => exact ⟨0, by go_num, Nat.zero_le _, Below.refl _ _, fun j hj => by omega⟩
  case round =>
    obtain ⟨k, rfl, hk, hB, hno⟩ := hrel
    have HB : Hid (Below w1.heap.size w1 wr) := hB
    have HNO : Hid (∀ j, j < k → wholeP p (li.reverse.getD j 0) = none) := hno
    have HBW : Hid (Below W0.heap.size W0 wr) := HB1.out.trans (hB.mono HB1.out.size)
    clear hB hno
    by_cases hlt : k < li.length
    · obtain ⟨ix, hix⟩ : ∃ ix : Nat, ix = li.length - 1 - k := ⟨_, rfl⟩
      have e : (li.length : Int) - 1 - (k : Int) = (ix : Int) := by omega
      rw [e]
      have k0 : (0 : Int) ≤ (ix : Int) := by omega
      have k1 : (ix : Int) < (li.length : Int) := by omega
      have k2 : ix < li.length := by omega
      obtain ⟨n, hn⟩ : ∃ n, li.reverse.getD k 0 = n := ⟨_, rfl⟩
      have hn2 : li.getD ix 0 = n := by
        rw [← hn, List.getD_eq_getElem?_getD, List.getD_eq_getElem?_getD, List.getElem?_reverse hlt, hix]
      have hnm : n ∈ li := by
        rw [← hn2, List.getD_eq_getElem?_getD, List.getElem?_eq_getElem k2]
        exact List.getElem_mem _
      have hn4 := HMX.out n hnm
      have hcell : ∃ g, a1 = some ⟨g, 0, none⟩ ∧ g < w1.heap.size ∧ w1.cell? ⟨g, ix, none⟩ = some (.int .i64 (n : Int)) := by
        obtain ⟨a', c', e, q1, q2, q3⟩ := HO1.out.sl (Nat.le_refl _)
        injection e with e1 e2 e3
        subst e1
        rcases q3 with q3 | ⟨g, off, hga, hgl, hc⟩
        · have := congrArg List.length q3; simp [ixI] at this; rw [this] at hlt; simp at hlt
        · have hoff : off = 0 := by
            rcases HO1.out.2 with ⟨e1, -⟩ | ⟨g', cap', cur, e1, -⟩
            · rw [hga] at e1; injection e1 with e1; cases e1
            · rw [hga] at e1; injection e1 with e1; cases e1; rfl
          subst hoff
          refine ⟨g, hga, hgl, ?_⟩
          have := hc ix (by simp [ixI]; omega)
          rw [Nat.zero_add] at this
          rw [this]
          congr 2
          rw [← hn2, List.getD_eq_getElem?_getD]
          unfold ixI
          rw [List.getElem?_map, List.getElem?_eq_getElem k2]
          rfl
      obtain ⟨g, hga, hgl, hc⟩ := hcell
      subst hga
      have hc' := (HB.out.cell (p := ⟨g, ix, none⟩) hgl).trans hc
      have hgl' : g < wr.heap.size := Nat.lt_of_lt_of_le hgl HB.out.size
      have HNM := refSnapName_any n hn4 wr
      have HRD : Hid (Calls _ _ _ _ _) := refRead (HD.out wr (HB0.out.trans (HBW.out.mono (by omega)))) HG.out (nmL n)
      have HST : Hid (x = match wholeP p n with | some s => (s, k, 0) | none => loadL p (li.reverse.drop (k + 1)) (k + 1)) := by
        show x = _
        rw [HLD.out, loadL_step p li.reverse k (by simpa using hlt) HNO.out, hn]
        cases wholeP p n <;> rfl
      have HNX : Hid (wholeP p n = none → ∀ j, j < k + 1 → wholeP p (li.reverse.getD j 0) = none) := fun h0 j hj => by
        by_cases hjk : j < k
        · exact HNO.out j hjk
        · rw [show j = k by omega, hn]; exact h0
      have HWH : Hid (wholeP p n = snapD n (rdP p (nmL n)).1) := whole_rdP p n
      have HIX : Hid (ix + 1 + k = li.length) := by show _ = _; omega
      have HRZ : Hid ((rdP p (nmL n)).1.length ≤ 1099511627776) := by
        show _ ≤ _
        obtain ⟨vv, fs, l, hd⟩ := HD.out wr (HB0.out.trans (HBW.out.mono (by omega)))
        have hsm := hd.rd.sm
        unfold rdP
        cases hl : lookP (nmL n) p.fs with
        | none => simp
        | some f =>
          have := sum_del (lookP_nm hl).1
          show f.dat.length ≤ _
          omega
      clear hn hn2 hc hnm hn4 HNO e hix k2
      generalize (rdP p (nmL n)).1 = dt at *
      go_upto_region 6 with (first
        | (go_at_call 23; refine (HNM).mono ?_; rintro r w2 ⟨rfl, rfl⟩)
        | (go_at_call 42; refine HRD.out.mono ?_; rintro r w3 ⟨v3, rfl, hO3, hB3⟩; have HB3 : Hid (Below w1.heap.size w1 w3) := HB.out.trans (hB3.mono HB.out.size); have HBW3 : Hid (Below W0.heap.size W0 w3) := HBW.out.trans (hB3.mono HBW.out.size); have HC3 : Hid (w3.cell? ⟨g, ix, none⟩ = some (.int .i64 (n : Int))) := (hB3.cell (p := ⟨g, ix, none⟩) hgl').trans hc'; have HON := Fr.refOne_any w3.heap.size v3 dt w3 (show Fr.Sl _ _ _ _ from hO3.sl (Nat.le_refl _)) (Nat.le_refl _) HRZ.out; clear hO3 hB3))
      have hos := Fr.oneOf_small dt
      have HSN : Hid (snapD n dt = if (Fr.oneOf dt).2 = 0 ∧ Cd.geSnap (Fr.oneOf dt).1 = 0 ∧ (Cd.goSnap (Fr.oneOf dt).1).1 = n then some (Cd.goSnap (Fr.oneOf dt).1) else none) := rfl
      generalize Fr.oneOf dt = oe at *
      obtain ⟨od, oc⟩ := oe
      simp only at hos HSN HON
      clear hc' hgl hgl' HB HBW
      by_cases hoc : oc = 0
      case neg =>
        have hocb : ((oc : Int) != 0) = true := by rw [bne_iff_ne]; omega
        have HN2 : Hid (∀ j, j < k + 1 → wholeP p (li.reverse.getD j 0) = none) := HNX.out (by rw [HWH.out, HSN.out, if_neg (fun h => hoc h.1)])
        clear hoc HSN HWH HST HNX
        go_wp2_with (go_at_call 43; refine HON.mono ?_; rintro r w4 ⟨v4, rfl, hO4, hB4⟩; have HB4 : Hid (Below w1.heap.size w1 w4) := HB3.out.trans (hB4.mono HB3.out.size); clear hO4 hB4)
        exact ⟨⟨k + 1, by have h9 : li.length = ix + 1 + k := HIX.out.symm; rw [h9]; go_num, by have := HIX.out; omega, HB4.out, HN2.out⟩, by simp [intOf] <;> omega⟩
      subst hoc
      go_upto_region 8 with (go_at_call 43; refine HON.mono ?_; rintro r w4 ⟨v4, rfl, hO4, hB4⟩; have HB4 : Hid (Below w1.heap.size w1 w4) := HB3.out.trans (hB4.mono HB3.out.size); have HBW4 : Hid (Below W0.heap.size W0 w4) := HBW3.out.trans (hB4.mono HBW3.out.size); have HC4 : Hid (w4.cell? ⟨g, ix, none⟩ = some (.int .i64 (n : Int))) := (hB4.cell (p := ⟨g, ix, none⟩) (World.block_lt_of_cell? w3 _ HC3.out)).trans HC3.out; have HGS := Cd.Gq.refGetSnap_any od v4 w4.heap.size w4 (show Cd.Sl _ _ _ _ from (show Ow _ _ _ _ from hO4).sl (Nat.le_refl _)) (Nat.le_refl _) (by omega); clear hO4 hB4)
      generalize Cd.geSnap od = ge at *
      generalize Cd.goSnap od = gs at *
      obtain ⟨s0, s1, s2⟩ := gs
      simp only at HGS HSN
      go_upto_region 9 with (go_at_call 44; refine HGS.mono ?_; rintro r w5 ⟨u5, rfl, hS5, hB5⟩; obtain ⟨ua, uc, hsh, hsq⟩ := id hS5; subst hsh; have HS5 : Hid (Sl w5.heap.size w5 (.slice ua s2.length uc) s2) := (show Cd.Sl _ _ _ _ from hS5); have HB5 : Hid (Below w1.heap.size w1 w5) := HB4.out.trans (hB5.mono HB4.out.size); have HBW5 : Hid (Below W0.heap.size W0 w5) := HBW4.out.trans (hB5.mono HBW4.out.size); have hgl5 : g < w5.heap.size := Nat.lt_of_lt_of_le (World.block_lt_of_cell? w4 _ HC4.out) hB5.size; have hc5 := (hB5.cell (p := ⟨g, ix, none⟩) (World.block_lt_of_cell? w4 _ HC4.out)).trans HC4.out; have rcG : ∀ (o : Obj), (w5.alloc o).cell? ⟨g, ix, none⟩ = some (.int .i64 (n : Int)) := fun o => (((Below.refl w5.heap.size w5).alloc (Nat.le_refl _) o).cell (p := ⟨g, ix, none⟩) hgl5).trans hc5; clear hS5 hB5 hsq hc5)
      clear HGS HC4 HC3 HON HB4 HB3 HBW4 HBW3
      go_cut [54] (fun v wx => v = .bool (decide (ge = 0 ∧ s0 = n)) ∧ Hid (∃ m, wx = (w5.alloc (.cells #[.int .i64 (s0 : Int), .int .i64 (s1 : Int), .slice ua s2.length uc] 34)).drewN m))
      case first =>
        clear HST HSN HWH HNX
        by_cases hge : ge = 0
        · subst hge
          by_cases hsn : s0 = n
          · subst hsn
            go_quiet (fail)
            go_wp2
            go_meet
            exact ⟨by simp, _, rfl⟩
          · have hsb : ((s0 : Int) == (n : Int)) = false := by simp; omega
            have HD9 : Hid (decide ((0 : Nat) = 0 ∧ s0 = n) = false) := by show _ = _; simp [hsn]
            clear hsn
            go_quiet (fail)
            go_wp2
            go_meet
            exact ⟨by rw [HD9.out], _, rfl⟩
        · have hgb : ((ge : Int) == 0) = false := by simp; omega
          have HD9 : Hid (decide (ge = 0 ∧ s0 = n) = false) := by show _ = _; simp [hge]
          clear hge
          go_quiet (fail)
          go_wp2
          go_meet
          exact ⟨by rw [HD9.out], _, rfl⟩
      case rest =>
      obtain ⟨hu, m, hwc⟩ := hcut
      subst hu
      have HA6 : Hid (Below w5.heap.size w5 wc) := by show Below _ _ _; rw [hwc]; exact ((Below.refl _ _).alloc (Nat.le_refl _) _).trans ⟨rfl, rfl, rfl, Nat.le_refl _, fun _ _ => rfl⟩
      have HX6 : Hid (wc.heap[w5.heap.size]? = some (.cells #[.int .i64 (s0 : Int), .int .i64 (s1 : Int), .slice ua s2.length uc] 34 (0, 0))) := by show _ = _; rw [hwc]; exact heap_alloc_new w5 _
      have HBW6 : Hid (Below W0.heap.size W0 wc) := HBW5.out.trans (HA6.out.mono HBW5.out.size)
      have HB6 : Hid (Below w1.heap.size w1 wc) := HB5.out.trans (HA6.out.mono HB5.out.size)
      have HS6 : Hid (Sl w5.heap.size wc (.slice ua s2.length uc) s2) := HS5.out.below HA6.out
      clear hwc rcG
      generalize wc = W6 at *
      by_cases hh : ge = 0 ∧ s0 = n
      case neg =>
        have HD9 : Hid (decide (ge = 0 ∧ s0 = n) = false) := by show _ = _; rw [decide_eq_false_iff_not]; exact hh
        have HN2 : Hid (∀ j, j < k + 1 → wholeP p (li.reverse.getD j 0) = none) := HNX.out (by rw [HWH.out, HSN.out, if_neg (fun h => hh ⟨h.2.1, h.2.2⟩)])
        rw [HD9.out]
        clear hh HSN HWH HST HNX
        go_wp2
        exact ⟨⟨k + 1, by have h9 : li.length = ix + 1 + k := HIX.out.symm; rw [h9]; go_num, by have := HIX.out; omega, HB6.out, HN2.out⟩, by simp [intOf] <;> omega⟩
      have HD9 : Hid (decide (ge = 0 ∧ s0 = n) = true) := by show _ = _; rw [decide_eq_true_eq]; exact hh
      rw [HD9.out]
      have HXX : Hid (x = ((s0, s1, s2), k, 0)) := by
        have hw : wholeP p n = some (s0, s1, s2) := by rw [HWH.out, HSN.out, if_pos ⟨by trivial, hh.1, hh.2⟩]
        have := HST.out
        rw [hw] at this
        exact this
      obtain ⟨hb3, hzw3⟩ := HR.out W6 HBW6.out
      obtain ⟨⟨d0, d1, d2⟩, g0, g1, g2⟩ := Cd.cells3 hb3
      obtain ⟨⟨k5, k6, k7⟩, -⟩ := Cd.cells3 HX6.out
      have hne : w5.heap.size ≠ w.heap.size := by have := HBW5.out.size; omega
      obtain ⟨W7, hW7⟩ : ∃ W7, ((W6.setCell ⟨w.heap.size, 0, none⟩ (.int .i64 (s0 : Int))).setCell ⟨w.heap.size, 1, none⟩ (.int .i64 (s1 : Int))).setCell ⟨w.heap.size, 2, none⟩ (.slice ua s2.length uc) = W7 := ⟨_, rfl⟩
      have HW7 : Hid (_ = W7) := hW7
      have H7 : Hid (W7.heap[w.heap.size]? = some (.cells #[.int .i64 (s0 : Int), .int .i64 (s1 : Int), .slice ua s2.length uc] 34 (0, 0))) := by show _ = _; rw [← hW7]; exact Cd.set3 hb3 _ _ _
      have HB7 : Hid (Below w.heap.size w W7) := by show Below _ _ _; rw [← hW7]; exact Cd.belset3 (HB0.out.trans (HBW6.out.mono (by omega))) (Nat.le_refl _) _ _ _
      have HS7 : Hid (Sl W7.heap.size W7 (.slice ua s2.length uc) s2) := by
        show Sl _ _ _ _
        rw [← hW7]
        exact Cd.Sl.grow (show Cd.Sl _ _ _ _ from HS6.out) HA6.out.size (Cd.grownset3 W6 w.heap.size _ _ _) (Cd.Sl.not_at (show Cd.Sl _ _ _ _ from HS6.out) hb3 (fun i b h => by rcases i with _ | _ | _ | i <;> simp [Cd.encB] at h))
      clear HST HSN HWH HNX hh hb3 hW7 HD9 HX6
      go_wp2_with fail
      rw [HW7.out]
      refine bodyPost_ret (results_ld rfl _ _ w.heap.size rfl H7.out) rfl ?_
      rw [HXX.out]
      refine ⟨_, ?_, HS7.out, HB7.out⟩
      show Ending.returned (.tuple #[_, .int .i64 ((li.length : Int) - 1 - (ix : Int)), .int .i64 0]) = _
      rw [show (li.length : Int) - 1 - (ix : Int) = (k : Int) by have := HIX.out; omega]
      rfl
    · have hkl : k = li.length := by omega
      have e : (li.length : Int) - 1 - (k : Int) = -1 := by omega
      rw [e]
      have HXX : Hid (x = ((0, 0, []), 0, 8)) := by
        show x = _
        rw [HLD.out]
        exact loadL_none p _ (fun j hj => HNO.out j (by simp at hj; omega))
      obtain ⟨hb3, hzw3⟩ := HR.out wr HBW.out
      obtain ⟨⟨d0, d1, d2⟩, g0, g1, g2⟩ := Cd.cells3 hb3
      have HX3 : Hid (wr.heap[w.heap.size]? = some (.cells #[.int .i64 0, .int .i64 0, .slice none 0 0] 34 (0, 0))) := hb3
      clear hb3 e hkl
      go_wp2
      refine bodyPost_ret (results_ld rfl _ _ w.heap.size rfl (Cd.set3 HX3.out _ _ _)) rfl ?_
      rw [HXX.out]
      exact ⟨_, rfl, Ow.sl (Ow.nil 0 _) (Nat.le_refl _), Cd.belset3 (HB0.out.trans (HBW.out.mono (by omega))) (Nat.le_refl _) _ _ _⟩
end Go.Proofs.YtadajbdmlmickaaGreatDoor
