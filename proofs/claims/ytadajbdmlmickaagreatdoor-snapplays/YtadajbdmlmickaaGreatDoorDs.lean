/-
  An operation of both disks.
-/
import Derived.Test.YtadajbdmlmickaaGreatDoorKrh
import Derived.Test.YtadajbdmlmickaaGreatDoorKre
import Derived.Test.YtadajbdmlmickaaGreatDoorFw
import Derived.Test.YtadajbdmlmickaaGreatDoorVr
namespace Go.Proofs.YtadajbdmlmickaaGreatDoor
open Go.RowKit Go.Shelf
set_option linter.unusedVariables false

/-- Behind an operation. -/
def sopP (p : PD) (o : Sop) : PD := if o.kd = 0 then (saveP p o.s.i o.s.t o.s.d).2 else if o.kd = 1 then (if o.n < 1 then p else (remL p (spareL p o.n.toNat)).2) else if o.kd = 2 then { p with arm := o.n.toNat } else if o.kd = 3 then doCrash p o.n else (toldP p o.d).2
set_option maxRecDepth 100000 in
theorem keep_no (d : Nat) (n : Int) (hn : n < 1) (w : World) : Calls Tryz.prog 28 #[.pointer (some ⟨d, 0, none⟩), .int .i64 n] w fun r w' => r = .returned (.tuple #[.int .i64 0, .int .i64 1]) ∧ w' = w := by
  go_enter Tryz.func28, Tryz.ntmps28
  go_wp2
  go_ret2
  exact ⟨rfl, rfl⟩
set_option maxRecDepth 100000 in
theorem refKeep_no (d : Nat) (n : Int) (hn : n < 1) (w : World) : Calls Tryz.prog 37 #[.pointer (some ⟨d, 0, none⟩), .int .i64 n] w fun r w' => r = .returned (.tuple #[.int .i64 0, .int .i64 1]) ∧ w' = w := by
  go_enter Tryz.func37, Tryz.ntmps37
  go_wp2
  go_ret2
  exact ⟨rfl, rfl⟩
set_option maxRecDepth 100000 in
set_option maxHeartbeats 8000000 in
theorem dsx_else {N : Nat} {S1 S2 : Nat → Prop} {w0 w : World} {d B : Nat} {p : PD} (h : Bth N S1 S2 w0 w d B p) (n i t : Int) (sa : Option Addr) (sc : Nat) (m : List UInt8) (okd on : Int) (onm ot : List UInt8) (oa : Option Addr) (oc : Nat) (ob : List UInt8) (kd : Int) (hkd : kd ≠ 0 ∧ kd ≠ 1 ∧ kd ≠ 2 ∧ kd ≠ 3) (hx : Sl N w (.slice oa ob.length oc) ob) (h1 : onm.length ≤ maxLen) (h2 : ot.length ≤ maxLen) (h3 : on < 9223372036854775808) (hbl : ob.length ≤ 140737488351232) :
    Calls Tryz.prog 11 #[.pointer (some ⟨d, 0, none⟩), .pointer (some ⟨B, 0, none⟩), .agg #[.int .i64 kd, .int .i64 n, .int .i64 i, .int .i64 t, .slice sa m.length sc, .int .i64 okd, .int .i64 on, .string ⟨onm.toArray⟩, .string ⟨ot.toArray⟩, .slice oa ob.length oc]] w fun r w' => r = .returned (.bool true) ∧ ∃ S3 S4, Bth N S3 S4 w0 w' d B (toldP p ⟨okd, on, onm, ot, oa, oc, ob⟩).2 := by
  obtain ⟨W0, hW0⟩ : ∃ W0, w.alloc (.cells #[.int .i64 kd, .int .i64 n, .int .i64 i, .int .i64 t, .slice sa m.length sc, .int .i64 okd, .int .i64 on, .string ⟨onm.toArray⟩, .string ⟨ot.toArray⟩, .slice oa ob.length oc] 38) = W0 := ⟨_, rfl⟩
  have HW0 : Hid (_ = W0) := hW0
  have hB0 : Below w.heap.size w W0 := by rw [← hW0]; exact (Below.refl _ w).alloc (Nat.le_refl _) _
  have hz0 : w.heap.size < W0.heap.size := by rw [← hW0]; simp
  have hbx : W0.heap[w.heap.size]? = some (.cells #[.int .i64 kd, .int .i64 n, .int .i64 i, .int .i64 t, .slice sa m.length sc, .int .i64 okd, .int .i64 on, .string ⟨onm.toArray⟩, .string ⟨ot.toArray⟩, .slice oa ob.length oc] 38 (0, 0)) := by rw [← hW0]; exact heap_alloc_new w _
  have HB : Hid (Bth N S1 S2 w0 W0 d B p) := h.below hB0
  have HB0 : Hid (Below w.heap.size w W0) := hB0
  have hS1 : ¬ S1 w.heap.size := fun hs => by have := h.dsk.inn _ hs; omega
  have hS2 : ¬ S2 w.heap.size := fun hs => by have := h.rds.inn _ hs; omega
  have HCE : Hid (∀ w' : World, w'.heap[w.heap.size]? = W0.heap[w.heap.size]? → w'.heap[w.heap.size]? = some (.cells #[.int .i64 kd, .int .i64 n, .int .i64 i, .int .i64 t, .slice sa m.length sc, .int .i64 okd, .int .i64 on, .string ⟨onm.toArray⟩, .string ⟨ot.toArray⟩, .slice oa ob.length oc] 38 (0, 0))) := fun w' hw => hw.trans hbx
  have c0 : W0.cell? ⟨w.heap.size, 0, none⟩ = some (.int .i64 kd) := by simp only [World.cell?, hbx]; rfl
  have c1 : W0.cell? ⟨w.heap.size, 1, none⟩ = some (.int .i64 n) := by simp only [World.cell?, hbx]; rfl
  have hda := does_any HB.out ⟨okd, on, onm, ot, oa, oc, ob⟩ (hx.below (hB0.mono h.sz)) h1 h2 h3 hbl
  obtain ⟨k0, k1, k2, k3⟩ := hkd
  have b0 : (kd == 0) = false := by simpa using k0
  have b1 : (kd == 1) = false := by simpa using k1
  have b2 : (kd == 2) = false := by simpa using k2
  have b3 : (kd == 3) = false := by simpa using k3
  have q0 : W0.cell? ⟨w.heap.size, 5, none⟩ = some (.int .i64 okd) := by simp only [World.cell?, hbx]; rfl
  have q1 : W0.cell? ⟨w.heap.size, 6, none⟩ = some (.int .i64 on) := by simp only [World.cell?, hbx]; rfl
  have q2 : W0.cell? ⟨w.heap.size, 7, none⟩ = some (.string ⟨onm.toArray⟩) := by simp only [World.cell?, hbx]; rfl
  have q3 : W0.cell? ⟨w.heap.size, 8, none⟩ = some (.string ⟨ot.toArray⟩) := by simp only [World.cell?, hbx]; rfl
  have q4 : W0.cell? ⟨w.heap.size, 9, none⟩ = some (.slice oa ob.length oc) := by simp only [World.cell?, hbx]; rfl
  unfold Opn.x at hda
  simp only at hda
  clear hW0 hB0 hbx h hx k0 k1 k2 k3 c1
  go_enter Tryz.func11, Tryz.ntmps11
  go_upto_region 1 with fail
  rw [HW0.out]
  go_wp2_with (go_at_call 39; refine hda.mono ?_; rintro r w5 ⟨rfl, hh⟩; have HH : Hid (∃ S3 S4, Bth N S3 S4 w0 w5 d B (toldP p ⟨okd, on, onm, ot, oa, oc, ob⟩).2) := hh; clear hh)
  go_ret
  exact ⟨rfl, HH.out⟩
set_option maxRecDepth 100000 in
set_option maxHeartbeats 8000000 in
theorem dsx_3 {N : Nat} {S1 S2 : Nat → Prop} {w0 w : World} {d B : Nat} {p : PD} (h : Bth N S1 S2 w0 w d B p) (n i t : Int) (sa : Option Addr) (sc : Nat) (m : List UInt8) (okd on : Int) (onm ot : List UInt8) (oa : Option Addr) (oc : Nat) (ob : List UInt8) (hn : n ≤ 9223372036854775807) :
    Calls Tryz.prog 11 #[.pointer (some ⟨d, 0, none⟩), .pointer (some ⟨B, 0, none⟩), .agg #[.int .i64 3, .int .i64 n, .int .i64 i, .int .i64 t, .slice sa m.length sc, .int .i64 okd, .int .i64 on, .string ⟨onm.toArray⟩, .string ⟨ot.toArray⟩, .slice oa ob.length oc]] w fun r w' => r = .returned (.bool true) ∧ ∃ S3 S4, Bth N S3 S4 w0 w' d B (doCrash p n) := by
  obtain ⟨W0, hW0⟩ : ∃ W0, w.alloc (.cells #[.int .i64 3, .int .i64 n, .int .i64 i, .int .i64 t, .slice sa m.length sc, .int .i64 okd, .int .i64 on, .string ⟨onm.toArray⟩, .string ⟨ot.toArray⟩, .slice oa ob.length oc] 38) = W0 := ⟨_, rfl⟩
  have HW0 : Hid (_ = W0) := hW0
  have hB0 : Below w.heap.size w W0 := by rw [← hW0]; exact (Below.refl _ w).alloc (Nat.le_refl _) _
  have hz0 : w.heap.size < W0.heap.size := by rw [← hW0]; simp
  have hbx : W0.heap[w.heap.size]? = some (.cells #[.int .i64 3, .int .i64 n, .int .i64 i, .int .i64 t, .slice sa m.length sc, .int .i64 okd, .int .i64 on, .string ⟨onm.toArray⟩, .string ⟨ot.toArray⟩, .slice oa ob.length oc] 38 (0, 0)) := by rw [← hW0]; exact heap_alloc_new w _
  have HB : Hid (Bth N S1 S2 w0 W0 d B p) := h.below hB0
  have HB0 : Hid (Below w.heap.size w W0) := hB0
  have hS1 : ¬ S1 w.heap.size := fun hs => by have := h.dsk.inn _ hs; omega
  have hS2 : ¬ S2 w.heap.size := fun hs => by have := h.rds.inn _ hs; omega
  have HCE : Hid (∀ w' : World, w'.heap[w.heap.size]? = W0.heap[w.heap.size]? → w'.heap[w.heap.size]? = some (.cells #[.int .i64 3, .int .i64 n, .int .i64 i, .int .i64 t, .slice sa m.length sc, .int .i64 okd, .int .i64 on, .string ⟨onm.toArray⟩, .string ⟨ot.toArray⟩, .slice oa ob.length oc] 38 (0, 0))) := fun w' hw => hw.trans hbx
  have c0 : W0.cell? ⟨w.heap.size, 0, none⟩ = some (.int .i64 3) := by simp only [World.cell?, hbx]; rfl
  have c1 : W0.cell? ⟨w.heap.size, 1, none⟩ = some (.int .i64 n) := by simp only [World.cell?, hbx]; rfl
  have hca := crash_dsk HB.out.dsk HB.out.sz n
  have HCX : Hid (∀ w' : World, w'.heap[w.heap.size]? = W0.heap[w.heap.size]? → w'.cell? ⟨w.heap.size, 1, none⟩ = some (.int .i64 n)) := fun w' hw => by have hR := hw.trans hbx; simp only [World.cell?, hR]; rfl
  clear hW0 hB0 hbx h
  go_enter Tryz.func11, Tryz.ntmps11
  go_upto_region 1 with fail
  rw [HW0.out]
  go_wp2_with (first
    | (go_at_call 26; refine hca.mono ?_; rintro e w5 ⟨rfl, hT5⟩; have c5 := HCX.out w5 (hT5.out.block _ hz0 hS1); have hda := refCrash (HB.out.rds.out hT5.out (fun j hj hk => HB.out.ap j hk hj)) HB.out.good n hn)
    | (go_at_call 38; refine hda.mono ?_; rintro e w6 ⟨rfl, hO6, hR6⟩)
    | fail)
  go_ret
  exact ⟨rfl, _, _, HB.out.cd hT5 hO6 hR6 (HB.out.good.told ⟨7, n, [], [], none, 0, []⟩ (by show n < _; omega))⟩
set_option maxRecDepth 100000 in
set_option maxHeartbeats 8000000 in
theorem dsx_2 {N : Nat} {S1 S2 : Nat → Prop} {w0 w : World} {d B : Nat} {p : PD} (h : Bth N S1 S2 w0 w d B p) (n i t : Int) (sa : Option Addr) (sc : Nat) (m : List UInt8) (okd on : Int) (onm ot : List UInt8) (oa : Option Addr) (oc : Nat) (ob : List UInt8) (hn : n ≤ 9223372036854775807) :
    Calls Tryz.prog 11 #[.pointer (some ⟨d, 0, none⟩), .pointer (some ⟨B, 0, none⟩), .agg #[.int .i64 2, .int .i64 n, .int .i64 i, .int .i64 t, .slice sa m.length sc, .int .i64 okd, .int .i64 on, .string ⟨onm.toArray⟩, .string ⟨ot.toArray⟩, .slice oa ob.length oc]] w fun r w' => r = .returned (.bool true) ∧ ∃ S3 S4, Bth N S3 S4 w0 w' d B { p with arm := n.toNat } := by
  obtain ⟨W0, hW0⟩ : ∃ W0, w.alloc (.cells #[.int .i64 2, .int .i64 n, .int .i64 i, .int .i64 t, .slice sa m.length sc, .int .i64 okd, .int .i64 on, .string ⟨onm.toArray⟩, .string ⟨ot.toArray⟩, .slice oa ob.length oc] 38) = W0 := ⟨_, rfl⟩
  have HW0 : Hid (_ = W0) := hW0
  have hB0 : Below w.heap.size w W0 := by rw [← hW0]; exact (Below.refl _ w).alloc (Nat.le_refl _) _
  have hz0 : w.heap.size < W0.heap.size := by rw [← hW0]; simp
  have hbx : W0.heap[w.heap.size]? = some (.cells #[.int .i64 2, .int .i64 n, .int .i64 i, .int .i64 t, .slice sa m.length sc, .int .i64 okd, .int .i64 on, .string ⟨onm.toArray⟩, .string ⟨ot.toArray⟩, .slice oa ob.length oc] 38 (0, 0)) := by rw [← hW0]; exact heap_alloc_new w _
  have HB : Hid (Bth N S1 S2 w0 W0 d B p) := h.below hB0
  have HB0 : Hid (Below w.heap.size w W0) := hB0
  have hS1 : ¬ S1 w.heap.size := fun hs => by have := h.dsk.inn _ hs; omega
  have hS2 : ¬ S2 w.heap.size := fun hs => by have := h.rds.inn _ hs; omega
  have HCE : Hid (∀ w' : World, w'.heap[w.heap.size]? = W0.heap[w.heap.size]? → w'.heap[w.heap.size]? = some (.cells #[.int .i64 2, .int .i64 n, .int .i64 i, .int .i64 t, .slice sa m.length sc, .int .i64 okd, .int .i64 on, .string ⟨onm.toArray⟩, .string ⟨ot.toArray⟩, .slice oa ob.length oc] 38 (0, 0))) := fun w' hw => hw.trans hbx
  have c0 : W0.cell? ⟨w.heap.size, 0, none⟩ = some (.int .i64 2) := by simp only [World.cell?, hbx]; rfl
  have c1 : W0.cell? ⟨w.heap.size, 1, none⟩ = some (.int .i64 n) := by simp only [World.cell?, hbx]; rfl
  have hca := arm_dsk HB.out.dsk HB.out.sz n (by omega)
  have HCX : Hid (∀ w' : World, w'.heap[w.heap.size]? = W0.heap[w.heap.size]? → w'.cell? ⟨w.heap.size, 1, none⟩ = some (.int .i64 n)) := fun w' hw => by have hR := hw.trans hbx; simp only [World.cell?, hR]; rfl
  have hmx : max n 0 = ((n.toNat : Nat) : Int) := by omega
  obtain ⟨mm, hme⟩ : ∃ mm, n.toNat = mm := ⟨_, rfl⟩
  rw [hme] at hmx hca ⊢
  have hmb : mm < 9223372036854775808 := by omega
  clear hW0 hB0 hbx h hme
  go_enter Tryz.func11, Tryz.ntmps11
  go_upto_region 1 with fail
  rw [HW0.out]
  go_wp2_with (first
    | (go_at_call 25; refine hca.mono ?_; rintro e w5 ⟨rfl, hT5⟩; have c5 := HCX.out w5 (hT5.out.block _ hz0 hS1); have hr5 := HB.out.rds.out hT5.out (fun j hj hk => HB.out.ap j hk hj); obtain ⟨v5, fs5, l5, hro⟩ := id hr5; obtain ⟨-, k1, -, -, -, z1, -, -⟩ := hro.rd.cells; clear hro)
    | fail)
  go_ret
  refine ⟨rfl, ?_⟩
  have hR6 := hr5.arm mm
  have hO6 : Out S2 w5 (w5.setCell ⟨B, 1, none⟩ (.int .i64 (mm : Int))) := Out.set (by obtain ⟨_, _, _, h9⟩ := hr5; exact h9.SB)
  exact ⟨_, _, HB.out.cd hT5 hO6 (hR6.mono (fun i hi => .inl hi) (fun i hi => by rw [size_set] at *; rcases hi with hi | hi; exact hr5.inn i hi; (have := hi.2; rw [size_set] at this; exact this))) ⟨HB.out.good.rise, HB.out.good.nms, HB.out.good.syn, by show mm ≤ _; omega⟩⟩
set_option maxRecDepth 100000 in
set_option maxHeartbeats 8000000 in
theorem dsx_1 {N : Nat} {S1 S2 : Nat → Prop} {w0 w : World} {d B : Nat} {p : PD} (h : Bth N S1 S2 w0 w d B p) (n i t : Int) (sa : Option Addr) (sc : Nat) (m : List UInt8) (okd on : Int) (onm ot : List UInt8) (oa : Option Addr) (oc : Nat) (ob : List UInt8) (hn : n ≤ 9223372036854775807) (hv : ∀ V, Below N w0 V → Vars V) :
    Calls Tryz.prog 11 #[.pointer (some ⟨d, 0, none⟩), .pointer (some ⟨B, 0, none⟩), .agg #[.int .i64 1, .int .i64 n, .int .i64 i, .int .i64 t, .slice sa m.length sc, .int .i64 okd, .int .i64 on, .string ⟨onm.toArray⟩, .string ⟨ot.toArray⟩, .slice oa ob.length oc]] w fun r w' => r = .returned (.bool true) ∧ ∃ S3 S4, Bth N S3 S4 w0 w' d B (if n < 1 then p else (remL p (spareL p n.toNat)).2) := by
  obtain ⟨W0, hW0⟩ : ∃ W0, w.alloc (.cells #[.int .i64 1, .int .i64 n, .int .i64 i, .int .i64 t, .slice sa m.length sc, .int .i64 okd, .int .i64 on, .string ⟨onm.toArray⟩, .string ⟨ot.toArray⟩, .slice oa ob.length oc] 38) = W0 := ⟨_, rfl⟩
  have HW0 : Hid (_ = W0) := hW0
  have hB0 : Below w.heap.size w W0 := by rw [← hW0]; exact (Below.refl _ w).alloc (Nat.le_refl _) _
  have hz0 : w.heap.size < W0.heap.size := by rw [← hW0]; simp
  have hbx : W0.heap[w.heap.size]? = some (.cells #[.int .i64 1, .int .i64 n, .int .i64 i, .int .i64 t, .slice sa m.length sc, .int .i64 okd, .int .i64 on, .string ⟨onm.toArray⟩, .string ⟨ot.toArray⟩, .slice oa ob.length oc] 38 (0, 0)) := by rw [← hW0]; exact heap_alloc_new w _
  have HB : Hid (Bth N S1 S2 w0 W0 d B p) := h.below hB0
  have HB0 : Hid (Below w.heap.size w W0) := hB0
  have hS1 : ¬ S1 w.heap.size := fun hs => by have := h.dsk.inn _ hs; omega
  have hS2 : ¬ S2 w.heap.size := fun hs => by have := h.rds.inn _ hs; omega
  have HCE : Hid (∀ w' : World, w'.heap[w.heap.size]? = W0.heap[w.heap.size]? → w'.heap[w.heap.size]? = some (.cells #[.int .i64 1, .int .i64 n, .int .i64 i, .int .i64 t, .slice sa m.length sc, .int .i64 okd, .int .i64 on, .string ⟨onm.toArray⟩, .string ⟨ot.toArray⟩, .slice oa ob.length oc] 38 (0, 0))) := fun w' hw => hw.trans hbx
  have c0 : W0.cell? ⟨w.heap.size, 0, none⟩ = some (.int .i64 1) := by simp only [World.cell?, hbx]; rfl
  have c1 : W0.cell? ⟨w.heap.size, 1, none⟩ = some (.int .i64 n) := by simp only [World.cell?, hbx]; rfl
  have HCX : Hid (∀ w' : World, w'.heap[w.heap.size]? = W0.heap[w.heap.size]? → w'.cell? ⟨w.heap.size, 1, none⟩ = some (.int .i64 n)) := fun w' hw => by have hR := hw.trans hbx; simp only [World.cell?, hR]; rfl
  by_cases hn1 : n < 1
  · rw [if_pos hn1]
    have hca := keep_no d n hn1 W0
    have hda := refKeep_no B n hn1 W0
    have HNU := num_any
    clear hW0 hB0 hbx h
    go_enter Tryz.func11, Tryz.ntmps11
    go_upto_region 1 with fail
    rw [HW0.out]
    go_wp2_with (first
      | (go_at_call 28; refine hca.mono ?_; rintro e w5 ⟨rfl, rfl⟩)
      | (go_at_call 37; refine hda.mono ?_; rintro e w6 ⟨rfl, rfl⟩)
      | (go_at_call 18; refine (HNU _ _).mono ?_; rintro e w6 ⟨rfl, rfl⟩))
    go_ret
    exact ⟨rfl, _, _, HB.out⟩
  · obtain ⟨nn, rfl⟩ : ∃ nn : Nat, n = (nn : Int) := ⟨n.toNat, by omega⟩
    rw [if_neg hn1, Int.toNat_natCast]
    have hca := keep_any HB.out.dsk HB.out.sz (fun V hV => hv V (HB.out.bel.trans (hV.mono HB.out.sz))) nn (by omega) (by omega)
    have HNU := num_any
    obtain ⟨K, hK⟩ : ∃ K, keepN (remL p (spareL p nn)).1 (spareL p nn).length = K := ⟨_, rfl⟩
    have HDK : Hid (∀ w5, RDs S2 w5 B p → Calls Tryz.prog 37 #[.pointer (some ⟨B, 0, none⟩), .int .i64 (nn : Int)] w5 fun r w' => r = .returned (.tuple #[.int .i64 (K : Int), .int .i64 ((remL p (spareL p nn)).1 : Int)]) ∧ Sd S2 w5 B w' (remL p (spareL p nn)).2) := fun w5 h5 => by rw [← hK]; exact refKeep_any h5 HB.out.good nn (by omega) (by omega)
    rw [hK] at hca
    generalize remL p (spareL p nn) = X at *
    obtain ⟨xe, q⟩ := X
    simp only at hca HDK ⊢
    clear hW0 hB0 hbx h hK
    go_enter Tryz.func11, Tryz.ntmps11
    go_upto_region 1 with fail
    rw [HW0.out]
    go_wp2_with (first
      | (go_at_call 28; refine hca.mono ?_; rintro e w5 ⟨rfl, hT5⟩; have c5 := HCX.out w5 (hT5.out.block _ hz0 hS1); have hda := HDK.out w5 (HB.out.rds.out hT5.out (fun j hj hk => HB.out.ap j hk hj)))
      | (go_at_call 37; refine hda.mono ?_; rintro e w6 ⟨rfl, hs6⟩; have HBB : Hid (∃ S3 S4, Bth N S3 S4 w0 w6 d B q) := ⟨_, _, HB.out.cd hT5 hs6.out hs6.rds hs6.good⟩; clear hs6 hT5)
      | (go_at_call 18; refine (HNU _ _).mono ?_; rintro e w7 ⟨rfl, rfl⟩))
    go_ret
    exact ⟨rfl, HBB.out⟩
end Go.Proofs.YtadajbdmlmickaaGreatDoor
