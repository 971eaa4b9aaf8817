/-
  SamB; SamE; SamM.
-/
import Derived.Test.YtfnnbfgfmbiabaaJ10
import Derived.Test.YtfnnbfgfmbiabaaJ13
import Derived.Test.YtfnnbfgfmbiabaaJ15
/-
  Whether two entries, two snapshots are the same: the document's.
-/
namespace Go.Proofs.Ytfnnbfgfmbiabaa
open Go.RowKit Go.Shelf

set_option maxRecDepth 100000 in
set_option maxHeartbeats 8000000 in
theorem sameEntry_any (t1 i1 k1 : Int) (a1 : Option Addr) (c1 : Nat) (m1 : List UInt8) (t2 i2 k2 : Int) (a2 : Option Addr) (c2 : Nat) (m2 : List UInt8) (M : Nat) (w : World) (h1 : Sl M w (.slice a1 m1.length c1) m1) (h2 : Sl M w (.slice a2 m2.length c2) m2) (hM : M ≤ w.heap.size) :
    Calls Try.prog 20 #[.agg #[.int .i64 t1, .int .i64 i1, .int .i64 k1, .slice a1 m1.length c1], .agg #[.int .i64 t2, .int .i64 i2, .int .i64 k2, .slice a2 m2.length c2]] w fun e w' => e = .returned (.bool (decide (m1 = m2) && (t1 == t2) && (i1 == i2) && (k1 == k2))) ∧ Below w.heap.size w w' := by
  obtain ⟨W0, hW0⟩ : ∃ W0, (w.alloc (.cells #[.int .i64 t1, .int .i64 i1, .int .i64 k1, .slice a1 m1.length c1] 24)).alloc (.cells #[.int .i64 t2, .int .i64 i2, .int .i64 k2, .slice a2 m2.length c2] 24) = W0 := ⟨_, rfl⟩
  have HW0 : Hid ((w.alloc (.cells #[.int .i64 t1, .int .i64 i1, .int .i64 k1, .slice a1 m1.length c1] 24)).alloc (.cells #[.int .i64 t2, .int .i64 i2, .int .i64 k2, .slice a2 m2.length c2] 24) = W0) := hW0
  have HB0 : Hid (Below w.heap.size w W0) := by show Below w.heap.size w W0; rw [← hW0]; exact (((Below.refl _ w).alloc (by simp) _).alloc (by simp) _)
  have HX : Hid (W0.heap[w.heap.size]? = some (.cells #[.int .i64 t1, .int .i64 i1, .int .i64 k1, .slice a1 m1.length c1] 24 (0, 0))) := by
    show W0.heap[w.heap.size]? = _
    rw [← hW0]; exact (((Below.refl (w.heap.size + 1) (w.alloc _)).alloc (by simp) _).block _ (by simp)).trans (World.alloc_heap_new w _)
  have HY : Hid (W0.heap[w.heap.size + 1]? = some (.cells #[.int .i64 t2, .int .i64 i2, .int .i64 k2, .slice a2 m2.length c2] 24 (0, 0))) := by
    show W0.heap[w.heap.size + 1]? = _
    rw [← hW0]; simpa using World.alloc_heap_new (w.alloc (.cells #[.int .i64 t1, .int .i64 i1, .int .i64 k1, .slice a1 m1.length c1] 24)) _
  clear hW0
  have g1 := h1.below (HB0.out.mono hM)
  have g2 := h2.below (HB0.out.mono hM)
  go_enter Try.func20, Try.ntmps20
  go_wp2_with fail
  rw [HW0.out]
  refine (same_any M _ _ m1 m2 W0 g1 g2).mono ?_
  rintro e w1 ⟨rfl, n1, hw1⟩
  have HB1 : Hid (Below w.heap.size w w1) := by show Below _ _ _; rw [hw1]; exact HB0.out.trans ⟨rfl, rfl, rfl, Nat.le_refl _, fun _ _ => rfl⟩
  obtain ⟨⟨p0, p1, p2, p3⟩, -⟩ := cells4 (show w1.heap[w.heap.size]? = _ by rw [hw1]; exact HX.out)
  obtain ⟨⟨q0, q1, q2, q3⟩, -⟩ := cells4 (show w1.heap[w.heap.size + 1]? = _ by rw [hw1]; exact HY.out)
  clear hw1 g1 g2 h1 h2
  go_wp2
  all_goals
    go_ret
    refine ⟨?_, HB1.out⟩
    simp_all

set_option maxRecDepth 100000 in
set_option maxHeartbeats 8000000 in
theorem sameSnap_any (i1 t1 : Int) (a1 : Option Addr) (c1 : Nat) (m1 : List UInt8) (i2 t2 : Int) (a2 : Option Addr) (c2 : Nat) (m2 : List UInt8) (M : Nat) (w : World) (h1 : Sl M w (.slice a1 m1.length c1) m1) (h2 : Sl M w (.slice a2 m2.length c2) m2) (hM : M ≤ w.heap.size) :
    Calls Try.prog 33 #[.agg #[.int .i64 i1, .int .i64 t1, .slice a1 m1.length c1], .agg #[.int .i64 i2, .int .i64 t2, .slice a2 m2.length c2]] w fun e w' => e = .returned (.bool (decide (m1 = m2) && (i1 == i2) && (t1 == t2))) ∧ Below w.heap.size w w' := by
  obtain ⟨W0, hW0⟩ : ∃ W0, (w.alloc (.cells #[.int .i64 i1, .int .i64 t1, .slice a1 m1.length c1] 57)).alloc (.cells #[.int .i64 i2, .int .i64 t2, .slice a2 m2.length c2] 57) = W0 := ⟨_, rfl⟩
  have HW0 : Hid ((w.alloc (.cells #[.int .i64 i1, .int .i64 t1, .slice a1 m1.length c1] 57)).alloc (.cells #[.int .i64 i2, .int .i64 t2, .slice a2 m2.length c2] 57) = W0) := hW0
  have HB0 : Hid (Below w.heap.size w W0) := by show Below w.heap.size w W0; rw [← hW0]; exact (((Below.refl _ w).alloc (by simp) _).alloc (by simp) _)
  have HX : Hid (W0.heap[w.heap.size]? = some (.cells #[.int .i64 i1, .int .i64 t1, .slice a1 m1.length c1] 57 (0, 0))) := by
    show W0.heap[w.heap.size]? = _
    rw [← hW0]; exact (((Below.refl (w.heap.size + 1) (w.alloc _)).alloc (by simp) _).block _ (by simp)).trans (World.alloc_heap_new w _)
  have HY : Hid (W0.heap[w.heap.size + 1]? = some (.cells #[.int .i64 i2, .int .i64 t2, .slice a2 m2.length c2] 57 (0, 0))) := by
    show W0.heap[w.heap.size + 1]? = _
    rw [← hW0]; simpa using World.alloc_heap_new (w.alloc (.cells #[.int .i64 i1, .int .i64 t1, .slice a1 m1.length c1] 57)) _
  clear hW0
  have g1 := h1.below (HB0.out.mono hM)
  have g2 := h2.below (HB0.out.mono hM)
  go_enter Try.func33, Try.ntmps33
  go_wp2_with fail
  rw [HW0.out]
  refine (same_any M _ _ m1 m2 W0 g1 g2).mono ?_
  rintro e w1 ⟨rfl, n1, hw1⟩
  have HB1 : Hid (Below w.heap.size w w1) := by show Below _ _ _; rw [hw1]; exact HB0.out.trans ⟨rfl, rfl, rfl, Nat.le_refl _, fun _ _ => rfl⟩
  obtain ⟨⟨p0, p1, p2⟩, -⟩ := cells3 (show w1.heap[w.heap.size]? = _ by rw [hw1]; exact HX.out)
  obtain ⟨⟨q0, q1, q2⟩, -⟩ := cells3 (show w1.heap[w.heap.size + 1]? = _ by rw [hw1]; exact HY.out)
  clear hw1 g1 g2 h1 h2
  go_wp2
  all_goals
    go_ret
    refine ⟨?_, HB1.out⟩
    simp_all

end Go.Proofs.Ytfnnbfgfmbiabaa

/-
  Whether two lists of entries, two messages are the same: the document's.
-/
namespace Go.Proofs.Ytfnnbfgfmbiabaa
open Go.RowKit Go.Shelf

/-- What entries say. -/
def saysOf (es : List Ent) : List (Int × Int × Int × List UInt8) := es.map Ent.says

theorem says_eq {e1 e2 : Ent} : e1.says = e2.says ↔ (e1.t = e2.t ∧ e1.i = e2.i ∧ e1.k = e2.k ∧ e1.d = e2.d) := by
  unfold Ent.says; simp

theorem take_succ1 {es : List Ent} {k : Nat} (h : k < es.length) : es.take (k + 1) = es.take k ++ [es.getD k nilEnt] := by
  rw [List.take_succ_eq_append_getElem h, List.getD_eq_getElem?_getD, List.getElem?_eq_getElem h]; rfl

theorem saysOf_drop {a b : List Ent} {k : Nat} (h : saysOf (a.take k) = saysOf (b.take k)) : (saysOf a = saysOf b) ↔ (saysOf (a.drop k) = saysOf (b.drop k)) := by
  have e1 : saysOf a = saysOf (a.take k) ++ saysOf (a.drop k) := by unfold saysOf; rw [← List.map_append, List.take_append_drop]
  have e2 : saysOf b = saysOf (b.take k) ++ saysOf (b.drop k) := by unfold saysOf; rw [← List.map_append, List.take_append_drop]
  rw [e1, e2, h]
  simp

set_option maxRecDepth 100000 in
set_option maxHeartbeats 8000000 in
theorem sameEntries_any (a b : Option Addr) (ca cb : Nat) (es fs : List Ent) (N : Nat) (w : World) (h1 : EntsAt N w a es) (h2 : EntsAt N w b fs) (hN : N ≤ w.heap.size) (hz : es.length ≤ 1000000) :
    Calls Try.prog 100 #[.slice a es.length ca, .slice b fs.length cb] w fun e w' => e = .returned (.bool (decide (saysOf es = saysOf fs))) ∧ Below w.heap.size w w' := by
  have H1 : Hid (EntsAt N w a es) := h1
  have H2 : Hid (EntsAt N w b fs) := h2
  clear h1 h2
  by_cases hl : es.length = fs.length
  case neg =>
    have hl' : ((es.length : Int) != (fs.length : Int)) = true := by simp; omega
    have e0 : decide (saysOf es = saysOf fs) = false := by
      simp only [decide_eq_false_iff_not]
      intro h
      have := congrArg List.length h
      simp [saysOf] at this
      exact hl this
    rw [e0]
    clear hl
    go_enter Try.func100, Try.ntmps100
    go_wp2
    go_returns
    exact ⟨rfl, Below.refl _ _⟩
  have hl' : ((es.length : Int) != (fs.length : Int)) = false := by simp; omega
  have HL : Hid (es.length = fs.length) := hl
  have hle : es.length ≤ fs.length := by omega
  clear hl
  go_enter Try.func100, Try.ntmps100
  go_wp2
  go_loopw [5] (fun iv wr => ∃ (k : Nat), iv = .int .i64 (k : Int) ∧ k ≤ es.length ∧ saysOf (es.take k) = saysOf (fs.take k) ∧ Below w.heap.size w wr) (fun iv _ => es.length - (intOf iv).toNat)
  case atStart => exact ⟨0, rfl, Nat.zero_le _, by simp, Below.refl _ _⟩
  case round =>
    obtain ⟨k, rfl, hk, hg, hB⟩ := hrel
    have HG : Hid (saysOf (es.take k) = saysOf (fs.take k)) := hg
    have HB : Hid (Below w.heap.size w wr) := hB
    clear hg
    by_cases hlt : k < es.length
    · have hlt2 : k < fs.length := by omega
      obtain ⟨b1, o1, hea, hb1, he1⟩ := H1.out.at hlt
      obtain ⟨b2, o2, heb, hb2, he2⟩ := H2.out.at hlt2
      subst hea heb
      have hx1 := he1.below hb1 (hB.mono hN)
      have hx2 := he2.below hb2 (hB.mono hN)
      have HD1 : Hid (es.drop k = es.getD k nilEnt :: es.drop (k + 1)) := drop_at hlt
      have HD2 : Hid (fs.drop k = fs.getD k nilEnt :: fs.drop (k + 1)) := drop_at hlt2
      have HT1 : Hid (es.take (k + 1) = es.take k ++ [es.getD k nilEnt]) := take_succ1 hlt
      have HT2 : Hid (fs.take (k + 1) = fs.take k ++ [fs.getD k nilEnt]) := take_succ1 hlt2
      generalize es.getD k nilEnt = e at *
      generalize fs.getD k nilEnt = f at *
      have hbw1 : b1 < wr.heap.size := by have := hB.size; omega
      have hbw2 : b2 < wr.heap.size := by have := hB.size; omega
      have hNw : N ≤ wr.heap.size := by have := hB.size; omega
      have HR : Hid (decide (saysOf es = saysOf fs) = true → e.says = f.says) := by
        intro h
        rw [decide_eq_true_eq, saysOf_drop HG.out, HD1.out, HD2.out] at h
        simp only [saysOf, List.map_cons, List.cons.injEq] at h
        exact h.1
      have HS : Hid (e.says = f.says → saysOf (es.take (k + 1)) = saysOf (fs.take (k + 1))) := by
        intro h
        rw [HT1.out, HT2.out]
        have := HG.out
        simp only [saysOf, List.map_append, List.map_cons, List.map_nil] at this ⊢
        rw [this, h]
      obtain ⟨t1, i1, k1, a1, c1, d1⟩ := e
      obtain ⟨t2, i2, k2, a2, c2, d2⟩ := f
      obtain ⟨p0, p1, p2, p3, p4⟩ := hx1
      obtain ⟨q0, q1, q2, q3, q4⟩ := hx2
      unfold Ent.x at p3 p4 q3 q4
      unfold Ent.says at HR HS
      simp only at p0 p1 p2 p3 p4 q0 q1 q2 q3 q4 HR HS
      have hdr : Below N wr wr.drew := ⟨rfl, rfl, rfl, Nat.le_refl _, fun _ _ => rfl⟩
      have hp := sameEntry_any t1 i1 k1 a1 c1 d1 t2 i2 k2 a2 c2 d2 N wr.drew (p4.below hdr) (q4.below hdr) hNw
      have hi2 : (k : Int) < (fs.length : Int) := by omega
      have hi1 : (k : Int) < (es.length : Int) := by omega
      have hi0 : (0 : Int) ≤ (k : Int) := by omega
      clear he1 he2 hB p4 q4
      by_cases hs : (decide (d1 = d2) && (t1 == t2) && (i1 == i2) && (k1 == k2)) = true
      · rw [hs] at hp
        go_wp2_with fail
        go_region_held3 (fun w' => w'.cell? ⟨b1, o1 + k * 4, none⟩ = some (.int .i64 t1) ∧ w'.cell? ⟨b1, o1 + k * 4 + 1, none⟩ = some (.int .i64 i1) ∧ w'.cell? ⟨b1, o1 + k * 4 + 2, none⟩ = some (.int .i64 k1) ∧ w'.cell? ⟨b1, o1 + k * 4 + 3, none⟩ = some (.slice a1 d1.length c1) ∧ w'.cell? ⟨b2, o2 + k * 4, none⟩ = some (.int .i64 t2) ∧ w'.cell? ⟨b2, o2 + k * 4 + 1, none⟩ = some (.int .i64 i2) ∧ w'.cell? ⟨b2, o2 + k * 4 + 2, none⟩ = some (.int .i64 k2) ∧ w'.cell? ⟨b2, o2 + k * 4 + 3, none⟩ = some (.slice a2 d2.length c2)) (go_keep)
          (first | (go_at_call 20; refine hp.mono ?_; rintro e w5 ⟨rfl, hB5⟩; have hB5x : Below wr.heap.size wr w5 := ⟨hB5.os, hB5.tape, hB5.output, hB5.size, hB5.block⟩; have r0 := (hB5x.cell (p := ⟨b1, o1 + k * 4, none⟩) hbw1).trans p0; have r1 := (hB5x.cell (p := ⟨b1, o1 + k * 4 + 1, none⟩) hbw1).trans p1; have r2 := (hB5x.cell (p := ⟨b1, o1 + k * 4 + 2, none⟩) hbw1).trans p2; have r3 := (hB5x.cell (p := ⟨b1, o1 + k * 4 + 3, none⟩) hbw1).trans p3; have s0 := (hB5x.cell (p := ⟨b2, o2 + k * 4, none⟩) hbw2).trans q0; have s1 := (hB5x.cell (p := ⟨b2, o2 + k * 4 + 1, none⟩) hbw2).trans q1; have s2 := (hB5x.cell (p := ⟨b2, o2 + k * 4 + 2, none⟩) hbw2).trans q2; have s3 := (hB5x.cell (p := ⟨b2, o2 + k * 4 + 3, none⟩) hbw2).trans q3))
        clear r0 r1 r2 r3 s0 s1 s2 s3 hB5
        go_wp2
        refine ⟨⟨k + 1, by go_num, by omega, HS.out ?_, HB.out.trans (hB5x.mono HB.out.size)⟩, by simp [intOf]; omega⟩
        simp at hs
        simp [hs]
      · have hs' : (decide (d1 = d2) && (t1 == t2) && (i1 == i2) && (k1 == k2)) = false := by simpa using hs
        have HE : Hid (decide (saysOf es = saysOf fs) = false) := by
          show decide (saysOf es = saysOf fs) = false
          cases hd : decide (saysOf es = saysOf fs)
          · rfl
          · exfalso
            apply hs
            have := HR.out hd
            simp at this
            simp [this]
        rw [hs'] at hp
        clear hs
        go_wp2_with fail
        go_region_held3 (fun w' => w'.cell? ⟨b1, o1 + k * 4, none⟩ = some (.int .i64 t1) ∧ w'.cell? ⟨b1, o1 + k * 4 + 1, none⟩ = some (.int .i64 i1) ∧ w'.cell? ⟨b1, o1 + k * 4 + 2, none⟩ = some (.int .i64 k1) ∧ w'.cell? ⟨b1, o1 + k * 4 + 3, none⟩ = some (.slice a1 d1.length c1) ∧ w'.cell? ⟨b2, o2 + k * 4, none⟩ = some (.int .i64 t2) ∧ w'.cell? ⟨b2, o2 + k * 4 + 1, none⟩ = some (.int .i64 i2) ∧ w'.cell? ⟨b2, o2 + k * 4 + 2, none⟩ = some (.int .i64 k2) ∧ w'.cell? ⟨b2, o2 + k * 4 + 3, none⟩ = some (.slice a2 d2.length c2)) (go_keep)
          (first | (go_at_call 20; refine hp.mono ?_; rintro e w5 ⟨rfl, hB5⟩; have hB5x : Below wr.heap.size wr w5 := ⟨hB5.os, hB5.tape, hB5.output, hB5.size, hB5.block⟩; have r0 := (hB5x.cell (p := ⟨b1, o1 + k * 4, none⟩) hbw1).trans p0; have r1 := (hB5x.cell (p := ⟨b1, o1 + k * 4 + 1, none⟩) hbw1).trans p1; have r2 := (hB5x.cell (p := ⟨b1, o1 + k * 4 + 2, none⟩) hbw1).trans p2; have r3 := (hB5x.cell (p := ⟨b1, o1 + k * 4 + 3, none⟩) hbw1).trans p3; have s0 := (hB5x.cell (p := ⟨b2, o2 + k * 4, none⟩) hbw2).trans q0; have s1 := (hB5x.cell (p := ⟨b2, o2 + k * 4 + 1, none⟩) hbw2).trans q1; have s2 := (hB5x.cell (p := ⟨b2, o2 + k * 4 + 2, none⟩) hbw2).trans q2; have s3 := (hB5x.cell (p := ⟨b2, o2 + k * 4 + 3, none⟩) hbw2).trans q3))
        clear r0 r1 r2 r3 s0 s1 s2 s3 hB5
        go_wp2
        go_returns
        exact ⟨by rw [HE.out]; rfl, HB.out.trans (hB5x.mono HB.out.size)⟩
    · have HE : Hid (decide (saysOf es = saysOf fs) = true) := by
        show decide (saysOf es = saysOf fs) = true
        have := HG.out
        rw [List.take_of_length_le (by omega), List.take_of_length_le (by have := HL.out; omega)] at this
        simpa using this
      go_wp2
      go_returns
      exact ⟨by rw [HE.out]; rfl, HB.out⟩
end Go.Proofs.Ytfnnbfgfmbiabaa

/-
  Whether two messages are the same: the document's.
-/
namespace Go.Proofs.Ytfnnbfgfmbiabaa
open Go.RowKit Go.Shelf

set_option maxRecDepth 100000 in
set_option maxHeartbeats 8000000 in
theorem sameMsg_any (kd1 fr1 to1 tm1 ix1 lt1 cm1 hi1 cx1 : Int) (rj1 : Bool) (ea1 : Option Addr) (ec1 : Nat) (es1 : List Ent) (si1 st1 : Int) (sa1 : Option Addr) (sc1 : Nat) (sd1 : List UInt8) (kd2 fr2 to2 tm2 ix2 lt2 cm2 hi2 cx2 : Int) (rj2 : Bool) (ea2 : Option Addr) (ec2 : Nat) (es2 : List Ent) (si2 st2 : Int) (sa2 : Option Addr) (sc2 : Nat) (sd2 : List UInt8) (N : Nat) (w : World) (h1 : EntsAt N w ea1 es1) (h2 : EntsAt N w ea2 es2) (g1 : Sl N w (.slice sa1 sd1.length sc1) sd1) (g2 : Sl N w (.slice sa2 sd2.length sc2) sd2) (hN : N ≤ w.heap.size) (hz : es1.length ≤ 1000000) :
    Calls Try.prog 53 #[.agg #[.int .i64 kd1, .int .i64 fr1, .int .i64 to1, .int .i64 tm1, .int .i64 ix1, .int .i64 lt1, .int .i64 cm1, .int .i64 hi1, .int .i64 cx1, .bool rj1, .slice ea1 es1.length ec1, .int .i64 si1, .int .i64 st1, .slice sa1 sd1.length sc1], .agg #[.int .i64 kd2, .int .i64 fr2, .int .i64 to2, .int .i64 tm2, .int .i64 ix2, .int .i64 lt2, .int .i64 cm2, .int .i64 hi2, .int .i64 cx2, .bool rj2, .slice ea2 es2.length ec2, .int .i64 si2, .int .i64 st2, .slice sa2 sd2.length sc2]] w fun e w' => e = .returned (.bool (((kd1 == kd2) && (fr1 == fr2) && (to1 == to2) && (tm1 == tm2)) && (decide (sd1 = sd2) && (si1 == si2) && (st1 == st2)) && decide (saysOf es1 = saysOf es2) && (ix1 == ix2) && (lt1 == lt2) && (cm1 == cm2) && (hi1 == hi2) && (cx1 == cx2) && (rj1 == rj2))) ∧ Below w.heap.size w w' := by
  obtain ⟨W0, hW0⟩ : ∃ W0, (w.alloc (.cells #[.int .i64 kd1, .int .i64 fr1, .int .i64 to1, .int .i64 tm1, .int .i64 ix1, .int .i64 lt1, .int .i64 cm1, .int .i64 hi1, .int .i64 cx1, .bool rj1, .slice ea1 es1.length ec1, .int .i64 si1, .int .i64 st1, .slice sa1 sd1.length sc1] 95)).alloc (.cells #[.int .i64 kd2, .int .i64 fr2, .int .i64 to2, .int .i64 tm2, .int .i64 ix2, .int .i64 lt2, .int .i64 cm2, .int .i64 hi2, .int .i64 cx2, .bool rj2, .slice ea2 es2.length ec2, .int .i64 si2, .int .i64 st2, .slice sa2 sd2.length sc2] 95) = W0 := ⟨_, rfl⟩
  have HW0 : Hid ((w.alloc (.cells #[.int .i64 kd1, .int .i64 fr1, .int .i64 to1, .int .i64 tm1, .int .i64 ix1, .int .i64 lt1, .int .i64 cm1, .int .i64 hi1, .int .i64 cx1, .bool rj1, .slice ea1 es1.length ec1, .int .i64 si1, .int .i64 st1, .slice sa1 sd1.length sc1] 95)).alloc (.cells #[.int .i64 kd2, .int .i64 fr2, .int .i64 to2, .int .i64 tm2, .int .i64 ix2, .int .i64 lt2, .int .i64 cm2, .int .i64 hi2, .int .i64 cx2, .bool rj2, .slice ea2 es2.length ec2, .int .i64 si2, .int .i64 st2, .slice sa2 sd2.length sc2] 95) = W0) := hW0
  have HB0 : Hid (Below w.heap.size w W0) := by show Below w.heap.size w W0; rw [← hW0]; exact (((Below.refl _ w).alloc (by simp) _).alloc (by simp) _)
  have HS0 : Hid (W0.heap.size = w.heap.size + 2) := by show W0.heap.size = _; rw [← hW0]; simp
  have HX : Hid (∀ w', Below W0.heap.size W0 w' → w'.heap[w.heap.size]? = some (.cells #[.int .i64 kd1, .int .i64 fr1, .int .i64 to1, .int .i64 tm1, .int .i64 ix1, .int .i64 lt1, .int .i64 cm1, .int .i64 hi1, .int .i64 cx1, .bool rj1, .slice ea1 es1.length ec1, .int .i64 si1, .int .i64 st1, .slice sa1 sd1.length sc1] 95 (0, 0))) := fun w' hB => by
    refine (hB.block _ (by have := HS0.out; omega)).trans ?_
    rw [← hW0]; exact (((Below.refl (w.heap.size + 1) (w.alloc _)).alloc (by simp) _).block _ (by simp)).trans (World.alloc_heap_new w _)
  have HY : Hid (∀ w', Below W0.heap.size W0 w' → w'.heap[w.heap.size + 1]? = some (.cells #[.int .i64 kd2, .int .i64 fr2, .int .i64 to2, .int .i64 tm2, .int .i64 ix2, .int .i64 lt2, .int .i64 cm2, .int .i64 hi2, .int .i64 cx2, .bool rj2, .slice ea2 es2.length ec2, .int .i64 si2, .int .i64 st2, .slice sa2 sd2.length sc2] 95 (0, 0))) := fun w' hB => by
    refine (hB.block _ (by have := HS0.out; omega)).trans ?_
    rw [← hW0]; simpa using World.alloc_heap_new (w.alloc (.cells #[.int .i64 kd1, .int .i64 fr1, .int .i64 to1, .int .i64 tm1, .int .i64 ix1, .int .i64 lt1, .int .i64 cm1, .int .i64 hi1, .int .i64 cx1, .bool rj1, .slice ea1 es1.length ec1, .int .i64 si1, .int .i64 st1, .slice sa1 sd1.length sc1] 95)) _
  clear hW0
  have HE1 : Hid (∀ w', Below W0.heap.size W0 w' → EntsAt N w' ea1 es1) := fun w' hB => h1.below ((HB0.out.trans (hB.mono HB0.out.size)).mono hN)
  have HE2 : Hid (∀ w', Below W0.heap.size W0 w' → EntsAt N w' ea2 es2) := fun w' hB => h2.below ((HB0.out.trans (hB.mono HB0.out.size)).mono hN)
  have G1 := g1.below (HB0.out.mono hN)
  have G2 := g2.below (HB0.out.mono hN)
  have HNN : Hid (∀ w', Below W0.heap.size W0 w' → N ≤ w'.heap.size) := fun w' hB => by have := hB.size; have := HS0.out; omega
  clear h1 h2 g1 g2
  go_enter Try.func53, Try.ntmps53
  go_wp2_with fail
  rw [HW0.out]
  refine (sameSnap_any si1 st1 sa1 sc1 sd1 si2 st2 sa2 sc2 sd2 N W0 G1 G2 (HNN.out _ (Below.refl _ _))).mono ?_
  rintro e w1 ⟨rfl, hB1⟩
  obtain ⟨sb, hsb⟩ : ∃ sb, (decide (sd1 = sd2) && (si1 == si2) && (st1 == st2)) = sb := ⟨_, rfl⟩
  rw [hsb]
  have HSB : Hid ((decide (sd1 = sd2) && (si1 == si2) && (st1 == st2)) = sb) := hsb
  clear hsb
  obtain ⟨⟨p0, p1, p2, p3, p4, p5, p6, p7, p8, p9, p10, p11, p12, p13⟩, -⟩ := cells14 (HX.out w1 hB1)
  obtain ⟨⟨q0, q1, q2, q3, q4, q5, q6, q7, q8, q9, q10, q11, q12, q13⟩, -⟩ := cells14 (HY.out w1 hB1)
  clear G1 G2
  go_wp2_with fail
  refine (sameEntries_any ea1 ea2 ec1 ec2 es1 es2 N w1 (HE1.out w1 hB1) (HE2.out w1 hB1) (HNN.out _ hB1) hz).mono ?_
  rintro e w2 ⟨rfl, hB2⟩
  have HB2 : Hid (Below W0.heap.size W0 w2) := hB1.trans (hB2.mono hB1.size)
  obtain ⟨eb, heb⟩ : ∃ eb, decide (saysOf es1 = saysOf es2) = eb := ⟨_, rfl⟩
  rw [heb]
  have HEB : Hid (decide (saysOf es1 = saysOf es2) = eb) := heb
  clear heb
  have HF : Hid (Below w.heap.size w w2) := HB0.out.trans (HB2.out.mono HB0.out.size)
  clear p0 q0 p1 q1 p2 q2 p3 q3 p4 q4 p5 q5 p6 q6 p7 q7 p8 q8 p9 q9 p10 q10 p11 q11 p12 q12 p13 q13 hB1 hB2
  obtain ⟨⟨p0, p1, p2, p3, p4, p5, p6, p7, p8, p9, p10, p11, p12, p13⟩, -⟩ := cells14 (HX.out w2 HB2.out)
  obtain ⟨⟨q0, q1, q2, q3, q4, q5, q6, q7, q8, q9, q10, q11, q12, q13⟩, -⟩ := cells14 (HY.out w2 HB2.out)
  go_wp2
  all_goals
    go_ret
    refine ⟨?_, HF.out⟩
    rw [HSB.out, HEB.out]
    clear HSB HEB HX HY HE1 HE2 HNN HW0 p0 q0 p1 q1 p2 q2 p3 q3 p4 q4 p5 q5 p6 q6 p7 q7 p8 q8 p9 q9 p10 q10 p11 q11 p12 q12 p13 q13
    simp_all
end Go.Proofs.Ytfnnbfgfmbiabaa

