/-
  Whether two lists of entries, two messages are the same: the document's.
-/
import Derived.Test.YtfnnbfgfmbiababEnt
import Derived.Test.YtfnnbfgfmbiababSamB
import Derived.Test.YtfnnbfgfmbiababMsgB
namespace Go.Proofs.Ytfnnbfgfmbiabab
open Go.RowKit Go.Shelf

/-- What entries say. -/
def saysOf (es : List Ent) : List (Int × Int × Int × List UInt8) := es.map Ent.says

theorem says_eq {e1 e2 : Ent} : e1.says = e2.says ↔ (e1.t = e2.t ∧ e1.i = e2.i ∧ e1.k = e2.k ∧ e1.d = e2.d) := by
  unfold Ent.says; simp

theorem take_succ1 {es : List Ent} {k : Nat} (h : k < es.length) : es.take (k + 1) = es.take k ++ [es.getD k nilEnt] := by
  rw [List.take_succ_eq_append_getElem h, List.getD_eq_getElem?_getD, List.getElem?_eq_getElem h]; rfl

theorem saysOf_drop {a b : List Ent} {k : Nat} (h : saysOf (a.take k) = saysOf (b.take k)) : (saysOf a = saysOf b) ↔ (saysOf (a.drop k) = saysOf (b.drop k)) := by
  have e1 : saysOf a = saysOf (a.take k) ++ saysOf (a.drop k) := by unfold saysOf; rw [← List.map_append, List.take_append_drop]
  have e2 : saysOf b = saysOf (b.take k) ++ saysOf (b.drop k) := by unfold saysOf; rw [← List.map_append, List.take_append_drop]
  rw [e1, e2, h]
  simp

set_option maxRecDepth 100000 in
set_option maxHeartbeats 8000000 in
theorem sameEntries_any (a b : Option Addr) (ca cb : Nat) (es fs : List Ent) (N : Nat) (w : World) (h1 : EntsAt N w a es) (h2 : EntsAt N w b fs) (hN : N ≤ w.heap.size) (hz : es.length ≤ 1000000) :
    Calls Try.prog 43 #[.slice a es.length ca, .slice b fs.length cb] w fun e w' => e = .returned (.bool (decide (saysOf es = saysOf fs))) ∧ Below w.heap.size w w' := by
  have H1 : Hid (EntsAt N w a es) := h1
  have H2 : Hid (EntsAt N w b fs) := h2
  clear h1 h2
  by_cases hl : es.length = fs.length
  case neg =>
    have hl' : ((es.length : Int) != (fs.length : Int)) = true := by simp; omega
    have e0 : decide (saysOf es = saysOf fs) = false := by
      simp only [decide_eq_false_iff_not]
      intro h
      have := congrArg List.length h
      simp [saysOf] at this
      exact hl this
    rw [e0]
    clear hl
    go_enter Try.func43, Try.ntmps43
    go_wp2
    go_returns
    exact ⟨rfl, Below.refl _ _⟩
  have hl' : ((es.length : Int) != (fs.length : Int)) = false := by simp; omega
  have HL : Hid (es.length = fs.length) := hl
  have hle : es.length ≤ fs.length := by omega
  clear hl
  go_enter Try.func43, Try.ntmps43
  go_wp2
  go_loopw [5] (fun iv wr => ∃ (k : Nat), iv = .int .i64 (k : Int) ∧ k ≤ es.length ∧ saysOf (es.take k) = saysOf (fs.take k) ∧ Below w.heap.size w wr) (fun iv _ => es.length - (intOf iv).toNat)
  case atStart => exact ⟨0, rfl, Nat.zero_le _, by simp, Below.refl _ _⟩
  case round =>
    obtain ⟨k, rfl, hk, hg, hB⟩ := hrel
    have HG : Hid (saysOf (es.take k) = saysOf (fs.take k)) := hg
    have HB : Hid (Below w.heap.size w wr) := hB
    clear hg
    by_cases hlt : k < es.length
    · have hlt2 : k < fs.length := by omega
      obtain ⟨b1, o1, hea, hb1, he1⟩ := H1.out.at hlt
      obtain ⟨b2, o2, heb, hb2, he2⟩ := H2.out.at hlt2
      subst hea heb
      have hx1 := he1.below hb1 (hB.mono hN)
      have hx2 := he2.below hb2 (hB.mono hN)
      have HD1 : Hid (es.drop k = es.getD k nilEnt :: es.drop (k + 1)) := drop_at hlt
      have HD2 : Hid (fs.drop k = fs.getD k nilEnt :: fs.drop (k + 1)) := drop_at hlt2
      have HT1 : Hid (es.take (k + 1) = es.take k ++ [es.getD k nilEnt]) := take_succ1 hlt
      have HT2 : Hid (fs.take (k + 1) = fs.take k ++ [fs.getD k nilEnt]) := take_succ1 hlt2
      generalize es.getD k nilEnt = e at *
      generalize fs.getD k nilEnt = f at *
      have hbw1 : b1 < wr.heap.size := by have := hB.size; omega
      have hbw2 : b2 < wr.heap.size := by have := hB.size; omega
      have hNw : N ≤ wr.heap.size := by have := hB.size; omega
      have HR : Hid (decide (saysOf es = saysOf fs) = true → e.says = f.says) := by
        intro h
        rw [decide_eq_true_eq, saysOf_drop HG.out, HD1.out, HD2.out] at h
        simp only [saysOf, List.map_cons, List.cons.injEq] at h
        exact h.1
      have HS : Hid (e.says = f.says → saysOf (es.take (k + 1)) = saysOf (fs.take (k + 1))) := by
        intro h
        rw [HT1.out, HT2.out]
        have := HG.out
        simp only [saysOf, List.map_append, List.map_cons, List.map_nil] at this ⊢
        rw [this, h]
      obtain ⟨t1, i1, k1, a1, c1, d1⟩ := e
      obtain ⟨t2, i2, k2, a2, c2, d2⟩ := f
      obtain ⟨p0, p1, p2, p3, p4⟩ := hx1
      obtain ⟨q0, q1, q2, q3, q4⟩ := hx2
      unfold Ent.x at p3 p4 q3 q4
      unfold Ent.says at HR HS
      simp only at p0 p1 p2 p3 p4 q0 q1 q2 q3 q4 HR HS
      have hdr : Below N wr wr.drew := ⟨rfl, rfl, rfl, Nat.le_refl _, fun _ _ => rfl⟩
      have hp := sameEntry_any t1 i1 k1 a1 c1 d1 t2 i2 k2 a2 c2 d2 N wr.drew (p4.below hdr) (q4.below hdr) hNw
      have hi2 : (k : Int) < (fs.length : Int) := by omega
      have hi1 : (k : Int) < (es.length : Int) := by omega
      have hi0 : (0 : Int) ≤ (k : Int) := by omega
      clear he1 he2 hB p4 q4
      by_cases hs : (decide (d1 = d2) && (t1 == t2) && (i1 == i2) && (k1 == k2)) = true
      · rw [hs] at hp
        go_wp2_with fail
        go_region_held3 (fun w' => w'.cell? ⟨b1, o1 + k * 4, none⟩ = some (.int .i64 t1) ∧ w'.cell? ⟨b1, o1 + k * 4 + 1, none⟩ = some (.int .i64 i1) ∧ w'.cell? ⟨b1, o1 + k * 4 + 2, none⟩ = some (.int .i64 k1) ∧ w'.cell? ⟨b1, o1 + k * 4 + 3, none⟩ = some (.slice a1 d1.length c1) ∧ w'.cell? ⟨b2, o2 + k * 4, none⟩ = some (.int .i64 t2) ∧ w'.cell? ⟨b2, o2 + k * 4 + 1, none⟩ = some (.int .i64 i2) ∧ w'.cell? ⟨b2, o2 + k * 4 + 2, none⟩ = some (.int .i64 k2) ∧ w'.cell? ⟨b2, o2 + k * 4 + 3, none⟩ = some (.slice a2 d2.length c2)) (go_keep)
          (first | (go_at_call 85; refine hp.mono ?_; rintro e w5 ⟨rfl, hB5⟩; have hB5x : Below wr.heap.size wr w5 := ⟨hB5.os, hB5.tape, hB5.output, hB5.size, hB5.block⟩; have r0 := (hB5x.cell (p := ⟨b1, o1 + k * 4, none⟩) hbw1).trans p0; have r1 := (hB5x.cell (p := ⟨b1, o1 + k * 4 + 1, none⟩) hbw1).trans p1; have r2 := (hB5x.cell (p := ⟨b1, o1 + k * 4 + 2, none⟩) hbw1).trans p2; have r3 := (hB5x.cell (p := ⟨b1, o1 + k * 4 + 3, none⟩) hbw1).trans p3; have s0 := (hB5x.cell (p := ⟨b2, o2 + k * 4, none⟩) hbw2).trans q0; have s1 := (hB5x.cell (p := ⟨b2, o2 + k * 4 + 1, none⟩) hbw2).trans q1; have s2 := (hB5x.cell (p := ⟨b2, o2 + k * 4 + 2, none⟩) hbw2).trans q2; have s3 := (hB5x.cell (p := ⟨b2, o2 + k * 4 + 3, none⟩) hbw2).trans q3))
        clear r0 r1 r2 r3 s0 s1 s2 s3 hB5
        go_wp2
        refine ⟨⟨k + 1, by go_num, by omega, HS.out ?_, HB.out.trans (hB5x.mono HB.out.size)⟩, by simp [intOf]; omega⟩
        simp at hs
        simp [hs]
      · have hs' : (decide (d1 = d2) && (t1 == t2) && (i1 == i2) && (k1 == k2)) = false := by simpa using hs
        have HE : Hid (decide (saysOf es = saysOf fs) = false) := by
          show decide (saysOf es = saysOf fs) = false
          cases hd : decide (saysOf es = saysOf fs)
          · rfl
          · exfalso
            apply hs
            have := HR.out hd
            simp at this
            simp [this]
        rw [hs'] at hp
        clear hs
        go_wp2_with fail
        go_region_held3 (fun w' => w'.cell? ⟨b1, o1 + k * 4, none⟩ = some (.int .i64 t1) ∧ w'.cell? ⟨b1, o1 + k * 4 + 1, none⟩ = some (.int .i64 i1) ∧ w'.cell? ⟨b1, o1 + k * 4 + 2, none⟩ = some (.int .i64 k1) ∧ w'.cell? ⟨b1, o1 + k * 4 + 3, none⟩ = some (.slice a1 d1.length c1) ∧ w'.cell? ⟨b2, o2 + k * 4, none⟩ = some (.int .i64 t2) ∧ w'.cell? ⟨b2, o2 + k * 4 + 1, none⟩ = some (.int .i64 i2) ∧ w'.cell? ⟨b2, o2 + k * 4 + 2, none⟩ = some (.int .i64 k2) ∧ w'.cell? ⟨b2, o2 + k * 4 + 3, none⟩ = some (.slice a2 d2.length c2)) (go_keep)
          (first | (go_at_call 85; refine hp.mono ?_; rintro e w5 ⟨rfl, hB5⟩; have hB5x : Below wr.heap.size wr w5 := ⟨hB5.os, hB5.tape, hB5.output, hB5.size, hB5.block⟩; have r0 := (hB5x.cell (p := ⟨b1, o1 + k * 4, none⟩) hbw1).trans p0; have r1 := (hB5x.cell (p := ⟨b1, o1 + k * 4 + 1, none⟩) hbw1).trans p1; have r2 := (hB5x.cell (p := ⟨b1, o1 + k * 4 + 2, none⟩) hbw1).trans p2; have r3 := (hB5x.cell (p := ⟨b1, o1 + k * 4 + 3, none⟩) hbw1).trans p3; have s0 := (hB5x.cell (p := ⟨b2, o2 + k * 4, none⟩) hbw2).trans q0; have s1 := (hB5x.cell (p := ⟨b2, o2 + k * 4 + 1, none⟩) hbw2).trans q1; have s2 := (hB5x.cell (p := ⟨b2, o2 + k * 4 + 2, none⟩) hbw2).trans q2; have s3 := (hB5x.cell (p := ⟨b2, o2 + k * 4 + 3, none⟩) hbw2).trans q3))
        clear r0 r1 r2 r3 s0 s1 s2 s3 hB5
        go_wp2
        go_returns
        exact ⟨by rw [HE.out]; rfl, HB.out.trans (hB5x.mono HB.out.size)⟩
    · have HE : Hid (decide (saysOf es = saysOf fs) = true) := by
        show decide (saysOf es = saysOf fs) = true
        have := HG.out
        rw [List.take_of_length_le (by omega), List.take_of_length_le (by have := HL.out; omega)] at this
        simpa using this
      go_wp2
      go_returns
      exact ⟨by rw [HE.out]; rfl, HB.out⟩
end Go.Proofs.Ytfnnbfgfmbiabab
