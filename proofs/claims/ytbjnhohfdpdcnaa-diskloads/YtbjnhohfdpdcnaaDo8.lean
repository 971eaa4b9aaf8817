/-
  Does of both disks: it is asked.
-/
import Derived.Test.YtbjnhohfdpdcnaaRe8
import Derived.Test.YtbjnhohfdpdcnaaFul
namespace Go.Proofs.Ytbjnhohfdpdcnaa
open Go.RowKit Go.Shelf
set_option linter.unusedVariables false

/-- Bytes of the call's own are written over. -/
theorem Ow.poke {N : Nat} {w : World} {g L c : Nat} {dat : List UInt8} (h : Ow N w (.slice (some ⟨g, 0, none⟩) L c) dat) (hl : dat.length = L) (k : Nat) (x : UInt8) : Ow N (w.setCell ⟨g, k, none⟩ (encB x)) (.slice (some ⟨g, 0, none⟩) L c) (dat.set k x) ∧ w.grownBy (w.setCell ⟨g, k, none⟩ (encB x)) (some g) := by
  subst hl
  have h9 := World.ownsRow.stored h k (encB x)
  refine ⟨?_, h9.2⟩
  show World.ownsRow _ _ _ _ _ _ _
  rw [List.length_set, List.map_set]
  exact h9.1
theorem Ow.cells {N : Nat} {w : World} {g L c : Nat} {dat : List UInt8} (h : Ow N w (.slice (some ⟨g, 0, none⟩) L c) dat) (hl : dat.length = L) {k : Nat} (hk : k < L) : (∃ u, w.cell? ⟨g, k, none⟩ = some u) ∧ w.frozen? ⟨g, k, none⟩ = false := by
  subst hl
  refine ⟨?_, World.ownsRow.frozenAt h k⟩
  have h9 := World.ownsRow.cellAt h k (by omega)
  rw [h9, List.getElem?_map, List.getElem?_eq_getElem hk]
  exact ⟨_, rfl⟩

set_option maxRecDepth 100000 in
set_option maxHeartbeats 20000000 in
theorem does_else {N : Nat} {S1 S2 : Nat → Prop} {w0 w : World} {d B : Nat} {p : PD} (h : Bth N S1 S2 w0 w d B p) (kd n : Int) (hkd : kd ≠ 0 ∧ kd ≠ 1 ∧ kd ≠ 2 ∧ kd ≠ 3 ∧ kd ≠ 4 ∧ kd ≠ 5 ∧ kd ≠ 6 ∧ kd ≠ 7) (nm to : List UInt8) (a : Option Addr) (c : Nat) (b : List UInt8) (h1 : nm.length ≤ maxLen) (h2 : to.length ≤ maxLen) (h3 : n < 9223372036854775808) :
    Calls Try.prog 12 #[.pointer (some ⟨d, 0, none⟩), .pointer (some ⟨B, 0, none⟩), .agg #[.int .i64 kd, .int .i64 n, .string ⟨nm.toArray⟩, .string ⟨to.toArray⟩, .slice a b.length c]] w fun r w' => r = .returned (.bool true) ∧ ∃ S3 S4, Bth N S3 S4 w0 w' d B (toldP p ⟨kd, n, nm, to, a, c, b⟩).2 := by
  obtain ⟨q0, q1, q2, q3, q4, q5, q6, q7⟩ := hkd
  have e0 : (kd == 0) = false := by simpa using q0
  have e1 : (kd == 1) = false := by simpa using q1
  have e2 : (kd == 2) = false := by simpa using q2
  have e3 : (kd == 3) = false := by simpa using q3
  have e4 : (kd == 4) = false := by simpa using q4
  have e5 : (kd == 5) = false := by simpa using q5
  have e6 : (kd == 6) = false := by simpa using q6
  have e7 : (kd == 7) = false := by simpa using q7
  have HT : Hid ((toldP p ⟨kd, n, nm, to, a, c, b⟩).2 = p) := by show (toldP p ⟨kd, n, nm, to, a, c, b⟩).2 = p; simp [toldP, q0, q1, q2, q3, q4, q5, q6, q7]
  have hb0 : Bth N S1 S2 w0 (w.alloc (.cells #[.int .i64 kd, .int .i64 n, .string ⟨nm.toArray⟩, .string ⟨to.toArray⟩, .slice a b.length c] 34)) d B p := h.below ((Below.refl _ w).alloc (Nat.le_refl _) _)
  have HBW : Hid (∀ w', Below (w.alloc (.cells #[.int .i64 kd, .int .i64 n, .string ⟨nm.toArray⟩, .string ⟨to.toArray⟩, .slice a b.length c] 34)).heap.size (w.alloc (.cells #[.int .i64 kd, .int .i64 n, .string ⟨nm.toArray⟩, .string ⟨to.toArray⟩, .slice a b.length c] 34)) w' → Bth N S1 S2 w0 w' d B p) := fun w' hB => hb0.below hB
  have HLT : Hid (w.heap.size < (w.alloc (.cells #[.int .i64 kd, .int .i64 n, .string ⟨nm.toArray⟩, .string ⟨to.toArray⟩, .slice a b.length c] 34)).heap.size) := by show w.heap.size < (w.alloc (.cells #[.int .i64 kd, .int .i64 n, .string ⟨nm.toArray⟩, .string ⟨to.toArray⟩, .slice a b.length c] 34)).heap.size; simp
  have HCE : Hid (∀ w', Below (w.alloc (.cells #[.int .i64 kd, .int .i64 n, .string ⟨nm.toArray⟩, .string ⟨to.toArray⟩, .slice a b.length c] 34)).heap.size (w.alloc (.cells #[.int .i64 kd, .int .i64 n, .string ⟨nm.toArray⟩, .string ⟨to.toArray⟩, .slice a b.length c] 34)) w' → w'.cell? ⟨w.heap.size, 2, none⟩ = some (.string ⟨nm.toArray⟩)) := fun w' hB => by
    have hR := (hB.block w.heap.size HLT.out).trans (heap_alloc_new w (.cells #[.int .i64 kd, .int .i64 n, .string ⟨nm.toArray⟩, .string ⟨to.toArray⟩, .slice a b.length c] 34))
    simp [World.cell?, hR]
  obtain ⟨dat, ee, HRD, HBO⟩ : ∃ (dat : List UInt8) (ee : Nat), Hid (rdP p nm = (dat, ee)) ∧ Hid ((lookP nm p.fs).isSome = ((ee : Int) == 0)) := by
    cases hl : lookP nm p.fs with
    | none => exact ⟨[], 8, by show rdP p nm = _; unfold rdP; rw [hl], by show _ = _; rfl⟩
    | some q => exact ⟨q.dat, 0, by show rdP p nm = _; unfold rdP; rw [hl], by show _ = _; rfl⟩
  have hca := read_dsk hb0.dsk nm h1
  rw [HRD.out] at hca
  have HDA : Hid (∀ w', Below (w.alloc (.cells #[.int .i64 kd, .int .i64 n, .string ⟨nm.toArray⟩, .string ⟨to.toArray⟩, .slice a b.length c] 34)).heap.size (w.alloc (.cells #[.int .i64 kd, .int .i64 n, .string ⟨nm.toArray⟩, .string ⟨to.toArray⟩, .slice a b.length c] 34)) w' → Calls Try.prog 45 #[.pointer (some ⟨B, 0, none⟩), .string ⟨nm.toArray⟩] w' fun r w'' => ∃ v, r = .returned (.tuple #[v, .int .i64 (ee : Int)]) ∧ Ow w'.heap.size w'' v dat ∧ Below w'.heap.size w' w'') := fun w' hB => by
    have h9 := refRead (HBW.out w' hB).rds (HBW.out w' hB).good nm
    rw [HRD.out] at h9
    exact h9
  have HHA : Hid (∀ w', Below (w.alloc (.cells #[.int .i64 kd, .int .i64 n, .string ⟨nm.toArray⟩, .string ⟨to.toArray⟩, .slice a b.length c] 34)).heap.size (w.alloc (.cells #[.int .i64 kd, .int .i64 n, .string ⟨nm.toArray⟩, .string ⟨to.toArray⟩, .slice a b.length c] 34)) w' → Calls Try.prog 46 #[.pointer (some ⟨d, 0, none⟩), .string ⟨nm.toArray⟩] w' fun r w'' => r = .returned (.bool ((ee : Int) == 0)) ∧ w'' = w') := fun w' hB => by
    have h9 := has_dsk (HBW.out w' hB).dsk nm h1
    rw [HBO.out] at h9
    exact h9
  have c2 := HCE.out (w.alloc (.cells #[.int .i64 kd, .int .i64 n, .string ⟨nm.toArray⟩, .string ⟨to.toArray⟩, .slice a b.length c] 34)) (Below.refl _ _)
  clear h hb0 q0 q1 q2 q3 q4 q5 q6 q7
  go_enter Try.func12, Try.ntmps12
  go_wp2_with fail
  refine hca.mono ?_
  rintro e w2 ⟨v2, rfl, hO2, hB2⟩
  obtain ⟨xa, xc, rfl, hxl, hxm⟩ := hO2.shape
  have HO2 : Hid (Ow (w.alloc (.cells #[.int .i64 kd, .int .i64 n, .string ⟨nm.toArray⟩, .string ⟨to.toArray⟩, .slice a b.length c] 34)).heap.size w2 (.slice xa dat.length xc) dat) := hO2
  have HB2 : Hid (Below (w.alloc (.cells #[.int .i64 kd, .int .i64 n, .string ⟨nm.toArray⟩, .string ⟨to.toArray⟩, .slice a b.length c] 34)).heap.size (w.alloc (.cells #[.int .i64 kd, .int .i64 n, .string ⟨nm.toArray⟩, .string ⟨to.toArray⟩, .slice a b.length c] 34)) w2) := hB2
  have c3 := HCE.out w2 hB2
  have hda := HDA.out w2 hB2
  clear hca hO2 hB2 c2
  go_wp2_with fail
  refine hda.mono ?_
  rintro e w3 ⟨v3, rfl, hO3, hB3⟩
  obtain ⟨ya, yc, rfl, hyl, hym⟩ := hO3.shape
  have HB3 : Hid (Below (w.alloc (.cells #[.int .i64 kd, .int .i64 n, .string ⟨nm.toArray⟩, .string ⟨to.toArray⟩, .slice a b.length c] 34)).heap.size (w.alloc (.cells #[.int .i64 kd, .int .i64 n, .string ⟨nm.toArray⟩, .string ⟨to.toArray⟩, .slice a b.length c] 34)) w3) := HB2.out.trans (hB3.mono HB2.out.size)
  have hO23 := HO2.out.below hB3 (Nat.le_refl _)
  have HO3 : Hid (Ow (w.alloc (.cells #[.int .i64 kd, .int .i64 n, .string ⟨nm.toArray⟩, .string ⟨to.toArray⟩, .slice a b.length c] 34)).heap.size w3 (.slice xa dat.length xc) dat) := hO23
  have hsa := same_any w3.heap.size _ _ dat dat w3 (hO23.sl (Nat.le_refl _)) (hO3.sl (Nat.le_refl _))
  rw [show decide (dat = dat) = true from by simp] at hsa
  have hdm : dat.length ≤ 9223372036854775807 := by unfold maxLen at hxm; omega
  clear hda hO3 hO23 hB3 c3
  go_wp2_with fail
  refine hsa.mono ?_
  rintro e w4 ⟨rfl, n4, rfl⟩
  go_wp2_with fail
  go_loopw [16] (fun iv wr => ∃ (k : Nat) (dd : List UInt8), iv = .int .i64 (k : Int) ∧ k ≤ dat.length ∧ dd.length = dat.length ∧ Ow (w.alloc (.cells #[.int .i64 kd, .int .i64 n, .string ⟨nm.toArray⟩, .string ⟨to.toArray⟩, .slice a b.length c] 34)).heap.size wr (.slice xa dat.length xc) dd ∧ Below (w.alloc (.cells #[.int .i64 kd, .int .i64 n, .string ⟨nm.toArray⟩, .string ⟨to.toArray⟩, .slice a b.length c] 34)).heap.size (w.alloc (.cells #[.int .i64 kd, .int .i64 n, .string ⟨nm.toArray⟩, .string ⟨to.toArray⟩, .slice a b.length c] 34)) wr) (fun iv _ => dat.length - (intOf iv).toNat)
  case atStart => exact ⟨0, dat, rfl, Nat.zero_le _, rfl, HO3.out, HB3.out.trans ⟨rfl, rfl, rfl, Nat.le_refl _, fun _ _ => rfl⟩⟩
  case round =>
    obtain ⟨k, dd, rfl, hk, hdl, hO, hB⟩ := hrel
    have HO : Hid (Ow (w.alloc (.cells #[.int .i64 kd, .int .i64 n, .string ⟨nm.toArray⟩, .string ⟨to.toArray⟩, .slice a b.length c] 34)).heap.size wr (.slice xa dat.length xc) dd) := hO
    have HDL : Hid (dd.length = dat.length) := hdl
    have HB : Hid (Below (w.alloc (.cells #[.int .i64 kd, .int .i64 n, .string ⟨nm.toArray⟩, .string ⟨to.toArray⟩, .slice a b.length c] 34)).heap.size (w.alloc (.cells #[.int .i64 kd, .int .i64 n, .string ⟨nm.toArray⟩, .string ⟨to.toArray⟩, .slice a b.length c] 34)) wr) := hB
    by_cases hlt : k < dat.length
    · have hi0 : (0 : Int) ≤ (k : Int) := by omega
      have hi1 : (k : Int) < (dat.length : Int) := by omega
      have hO' : wr.ownsRow (w.alloc (.cells #[.int .i64 kd, .int .i64 n, .string ⟨nm.toArray⟩, .string ⟨to.toArray⟩, .slice a b.length c] 34)).heap.size 5 1 (.slice xa dat.length xc) dat.length (dd.map encB) := by have h9 := hO; unfold Ow at h9; rw [hdl] at h9; exact h9
      obtain ⟨g, gc, hge, -⟩ := row_some hO' (by omega)
      cases hge
      obtain ⟨⟨u, b1⟩, b2⟩ := hO.cells hdl hlt
      clear hO hO' hdl hB
      go_wp2
      have h9 := HO.out.poke HDL.out k 98
      exact ⟨⟨k + 1, dd.set k 98, by go_num, by omega, by rw [List.length_set]; exact HDL.out, h9.1, HB.out.grown h9.2 HB.out.size (fun j hj => by cases hj; exact (World.ownsRow.lt HO.out g rfl).1)⟩, by simp [intOf]; omega⟩
    · have hge : decide ((k : Int) < (dat.length : Int)) = false := by simp; omega
      have c9 := HCE.out wr hB
      have hha := HHA.out wr hB
      clear hO hdl hB
      go_wp2_with (first
        | (go_at_call 18; refine (num_any _ _).mono ?_; rintro e wz ⟨rfl, hz⟩; subst wz)
        | (go_at_call 46; refine hha.mono ?_; rintro e wz ⟨rfl, hz⟩; subst wz)
        | fail)
      go_ret
      exact ⟨by simp, S1, S2, by rw [HT.out]; exact HBW.out wr HB.out⟩
end Go.Proofs.Ytbjnhohfdpdcnaa
