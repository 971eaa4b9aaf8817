/-
  Does of both disks: kinds 0, 2, 3, 4, 5. Does of both disks: it is asked. Does of both disks: Append; long bytes. Does of both disks: kinds 6 and 7. DiskPlays: the walk of the law.
-/
import Derived.Test.YtadajbdmlmickaaGreatDoorKrc
import Derived.Test.YtadajbdmlmickaaGreatDoorKrd
namespace Go.Proofs.YtadajbdmlmickaaGreatDoor
open Go.RowKit Go.Shelf
set_option linter.unusedVariables false

set_option maxRecDepth 100000 in
set_option maxHeartbeats 20000000 in
theorem does_0 {N : Nat} {S1 S2 : Nat → Prop} {w0 w : World} {d B : Nat} {p : PD} (h : Bth N S1 S2 w0 w d B p) (n : Int) (nm to : List UInt8) (a : Option Addr) (c : Nat) (b : List UInt8) (h1 : nm.length ≤ maxLen) (h2 : to.length ≤ maxLen) (h3 : n < 9223372036854775808) :
    Calls Tryz.prog 39 #[.pointer (some ⟨d, 0, none⟩), .pointer (some ⟨B, 0, none⟩), .agg #[.int .i64 0, .int .i64 n, .string ⟨nm.toArray⟩, .string ⟨to.toArray⟩, .slice a b.length c]] w fun r w' => r = .returned (.bool true) ∧ ∃ S3 S4, Bth N S3 S4 w0 w' d B (toldP p ⟨0, n, nm, to, a, c, b⟩).2 := by
  have hG := h.good
  have hb0 : Bth N S1 S2 w0 (w.alloc (.cells #[.int .i64 0, .int .i64 n, .string ⟨nm.toArray⟩, .string ⟨to.toArray⟩, .slice a b.length c] 36)).drew d B p := (h.below ((Below.refl _ w).alloc (Nat.le_refl _) _)).drew
  have HB : Hid (Bth N S1 S2 w0 (w.alloc (.cells #[.int .i64 0, .int .i64 n, .string ⟨nm.toArray⟩, .string ⟨to.toArray⟩, .slice a b.length c] 36)).drew d B p) := hb0
  have HT : Hid ((toldP p ⟨0, n, nm, to, a, c, b⟩).2 = (doCreate p nm).2) := rfl
  have HGD : Hid (∀ (S : Nat → Prop) (w' : World), Dsk N w' S d (doCreate p nm).2 → Good (doCreate p nm).2) := fun S w' h9 => good_told hG ⟨0, n, nm, to, a, c, b⟩ h3 h9
  have hS1 : ¬ S1 w.heap.size := fun hs => by have := h.dsk.inn _ hs; omega
  have hS2 : ¬ S2 w.heap.size := fun hs => by have := h.rds.inn _ hs; omega
  have HCC : Hid (∀ w5, Dsk N w5 S1 d p → N ≤ w5.heap.size → Calls Tryz.prog 29 #[.pointer (some ⟨d, 0, none⟩), .string ⟨nm.toArray⟩] w5 fun r w' => r = .returned (.int .i64 ((doCreate p nm).1 : Int)) ∧ Then N S1 w5 w' d (doCreate p nm).2) := fun w5 hd hN => code_op (X := fun p => doCreate p nm) hd hN (fun k hk hS => create_any hk nm h1)
  have HDD : Hid (∀ w5, RDs S2 w5 B p → Calls Tryz.prog 74 #[.pointer (some ⟨B, 0, none⟩), .string ⟨nm.toArray⟩] w5 fun r w' => RDone S2 w5 B (doCreate p nm) r w') := fun w5 hr => refCreate hr hG nm h1
  have HCE : Hid (∀ w' : World, w'.heap[w.heap.size]? = (w.alloc (.cells #[.int .i64 0, .int .i64 n, .string ⟨nm.toArray⟩, .string ⟨to.toArray⟩, .slice a b.length c] 36)).heap[w.heap.size]? → w'.cell? ⟨w.heap.size, 2, none⟩ = some (.string ⟨nm.toArray⟩) ∧ True) := fun w' hw => by
    have hR := hw.trans (heap_alloc_new w (.cells #[.int .i64 0, .int .i64 n, .string ⟨nm.toArray⟩, .string ⟨to.toArray⟩, .slice a b.length c] 36))
    exact ⟨by simp [World.cell?, hR], trivial⟩
  have HLT : Hid (w.heap.size < (w.alloc (.cells #[.int .i64 0, .int .i64 n, .string ⟨nm.toArray⟩, .string ⟨to.toArray⟩, .slice a b.length c] 36)).drew.heap.size) := by show w.heap.size < (w.alloc (.cells #[.int .i64 0, .int .i64 n, .string ⟨nm.toArray⟩, .string ⟨to.toArray⟩, .slice a b.length c] 36)).heap.size; simp
  have hc1 := HCC.out _ hb0.dsk hb0.sz
  have hd1 := HDD.out _ hb0.rds
  clear h hb0 hG
  go_enter Tryz.func39, Tryz.ntmps39
  go_wp2_with fail
  go_region_held3 (fun w' => w'.cell? ⟨w.heap.size, 2, none⟩ = some (.string ⟨nm.toArray⟩)) (go_keep)
    (first
      | (go_at_call 18; refine (num_any _ _).mono ?_; rintro e wz ⟨rfl, hz⟩; subst wz)
      | (go_at_call 29; refine hc1.mono ?_; rintro e w5 ⟨rfl, hT5⟩; clear hd1 hc1; have hd2 := HDD.out w5 (HB.out.rds.out hT5.out (fun j hj hk => HB.out.ap j hk hj)); have HK5 : Hid (w5.heap[w.heap.size]? = (w.alloc (.cells #[.int .i64 0, .int .i64 n, .string ⟨nm.toArray⟩, .string ⟨to.toArray⟩, .slice a b.length c] 36)).heap[w.heap.size]?) := hT5.out.block _ HLT.out hS1; obtain ⟨c25, -⟩ := HCE.out w5 HK5.out)
      | (go_at_call 74; refine hd2.mono ?_; rintro e w6 ⟨rfl, hO6, hR6⟩; have HB6 : Hid (∃ S3 S4, Bth N S3 S4 w0 w6 d B (doCreate p nm).2) := ⟨_, _, HB.out.cd hT5 hO6 hR6 (HGD.out _ _ hT5.dsk)⟩; obtain ⟨c26, -⟩ := HCE.out w6 ((hO6.block _ (Nat.lt_of_lt_of_le HLT.out hT5.out.size) hS2).trans HK5.out))
      | (go_at_call 74; refine hd1.mono ?_; rintro e w5 ⟨rfl, hO5, hR5⟩; clear hc1 hd1; have hc2 := HCC.out w5 (HB.out.dsk.out hO5 (fun j hj hk => HB.out.ap j hj hk)) (Nat.le_trans HB.out.sz hO5.size); have HK5 : Hid (w5.heap[w.heap.size]? = (w.alloc (.cells #[.int .i64 0, .int .i64 n, .string ⟨nm.toArray⟩, .string ⟨to.toArray⟩, .slice a b.length c] 36)).heap[w.heap.size]?) := hO5.block _ HLT.out hS2; obtain ⟨c25, -⟩ := HCE.out w5 HK5.out)
      | (go_at_call 29; refine hc2.mono ?_; rintro e w6 ⟨rfl, hT6⟩; have HB6 : Hid (∃ S3 S4, Bth N S3 S4 w0 w6 d B (doCreate p nm).2) := ⟨_, _, HB.out.dc hO5 hR5 hT6 (HGD.out _ _ hT6.dsk)⟩; obtain ⟨c26, -⟩ := HCE.out w6 ((hT6.out.block _ (Nat.lt_of_lt_of_le HLT.out hO5.size) hS1).trans HK5.out))
      | fail)
  all_goals (go_wp2; go_ret; exact ⟨by simp, by rw [HT.out]; exact HB6.out⟩)

set_option maxRecDepth 100000 in
set_option maxHeartbeats 20000000 in
theorem does_2 {N : Nat} {S1 S2 : Nat → Prop} {w0 w : World} {d B : Nat} {p : PD} (h : Bth N S1 S2 w0 w d B p) (n : Int) (nm to : List UInt8) (a : Option Addr) (c : Nat) (b : List UInt8) (h1 : nm.length ≤ maxLen) (h2 : to.length ≤ maxLen) (h3 : n < 9223372036854775808) :
    Calls Tryz.prog 39 #[.pointer (some ⟨d, 0, none⟩), .pointer (some ⟨B, 0, none⟩), .agg #[.int .i64 2, .int .i64 n, .string ⟨nm.toArray⟩, .string ⟨to.toArray⟩, .slice a b.length c]] w fun r w' => r = .returned (.bool true) ∧ ∃ S3 S4, Bth N S3 S4 w0 w' d B (toldP p ⟨2, n, nm, to, a, c, b⟩).2 := by
  have hG := h.good
  have hb0 : Bth N S1 S2 w0 (w.alloc (.cells #[.int .i64 2, .int .i64 n, .string ⟨nm.toArray⟩, .string ⟨to.toArray⟩, .slice a b.length c] 36)).drew d B p := (h.below ((Below.refl _ w).alloc (Nat.le_refl _) _)).drew
  have HB : Hid (Bth N S1 S2 w0 (w.alloc (.cells #[.int .i64 2, .int .i64 n, .string ⟨nm.toArray⟩, .string ⟨to.toArray⟩, .slice a b.length c] 36)).drew d B p) := hb0
  have HT : Hid ((toldP p ⟨2, n, nm, to, a, c, b⟩).2 = (doSync p nm).2) := rfl
  have HGD : Hid (∀ (S : Nat → Prop) (w' : World), Dsk N w' S d (doSync p nm).2 → Good (doSync p nm).2) := fun S w' h9 => good_told hG ⟨2, n, nm, to, a, c, b⟩ h3 h9
  have hS1 : ¬ S1 w.heap.size := fun hs => by have := h.dsk.inn _ hs; omega
  have hS2 : ¬ S2 w.heap.size := fun hs => by have := h.rds.inn _ hs; omega
  have HCC : Hid (∀ w5, Dsk N w5 S1 d p → N ≤ w5.heap.size → Calls Tryz.prog 31 #[.pointer (some ⟨d, 0, none⟩), .string ⟨nm.toArray⟩] w5 fun r w' => r = .returned (.int .i64 ((doSync p nm).1 : Int)) ∧ Then N S1 w5 w' d (doSync p nm).2) := fun w5 hd hN => code_op (X := fun p => doSync p nm) hd hN (fun k hk hS => sync_any hk nm h1)
  have HDD : Hid (∀ w5, RDs S2 w5 B p → Calls Tryz.prog 76 #[.pointer (some ⟨B, 0, none⟩), .string ⟨nm.toArray⟩] w5 fun r w' => RDone S2 w5 B (doSync p nm) r w') := fun w5 hr => refSync hr hG nm
  have HCE : Hid (∀ w' : World, w'.heap[w.heap.size]? = (w.alloc (.cells #[.int .i64 2, .int .i64 n, .string ⟨nm.toArray⟩, .string ⟨to.toArray⟩, .slice a b.length c] 36)).heap[w.heap.size]? → w'.cell? ⟨w.heap.size, 2, none⟩ = some (.string ⟨nm.toArray⟩) ∧ True) := fun w' hw => by
    have hR := hw.trans (heap_alloc_new w (.cells #[.int .i64 2, .int .i64 n, .string ⟨nm.toArray⟩, .string ⟨to.toArray⟩, .slice a b.length c] 36))
    exact ⟨by simp [World.cell?, hR], trivial⟩
  have HLT : Hid (w.heap.size < (w.alloc (.cells #[.int .i64 2, .int .i64 n, .string ⟨nm.toArray⟩, .string ⟨to.toArray⟩, .slice a b.length c] 36)).drew.heap.size) := by show w.heap.size < (w.alloc (.cells #[.int .i64 2, .int .i64 n, .string ⟨nm.toArray⟩, .string ⟨to.toArray⟩, .slice a b.length c] 36)).heap.size; simp
  have hc1 := HCC.out _ hb0.dsk hb0.sz
  have hd1 := HDD.out _ hb0.rds
  clear h hb0 hG
  go_enter Tryz.func39, Tryz.ntmps39
  go_wp2_with fail
  go_region_held3 (fun w' => w'.cell? ⟨w.heap.size, 2, none⟩ = some (.string ⟨nm.toArray⟩)) (go_keep)
    (first
      | (go_at_call 18; refine (num_any _ _).mono ?_; rintro e wz ⟨rfl, hz⟩; subst wz)
      | (go_at_call 31; refine hc1.mono ?_; rintro e w5 ⟨rfl, hT5⟩; clear hd1 hc1; have hd2 := HDD.out w5 (HB.out.rds.out hT5.out (fun j hj hk => HB.out.ap j hk hj)); have HK5 : Hid (w5.heap[w.heap.size]? = (w.alloc (.cells #[.int .i64 2, .int .i64 n, .string ⟨nm.toArray⟩, .string ⟨to.toArray⟩, .slice a b.length c] 36)).heap[w.heap.size]?) := hT5.out.block _ HLT.out hS1; obtain ⟨c25, -⟩ := HCE.out w5 HK5.out)
      | (go_at_call 76; refine hd2.mono ?_; rintro e w6 ⟨rfl, hO6, hR6⟩; have HB6 : Hid (∃ S3 S4, Bth N S3 S4 w0 w6 d B (doSync p nm).2) := ⟨_, _, HB.out.cd hT5 hO6 hR6 (HGD.out _ _ hT5.dsk)⟩; obtain ⟨c26, -⟩ := HCE.out w6 ((hO6.block _ (Nat.lt_of_lt_of_le HLT.out hT5.out.size) hS2).trans HK5.out))
      | (go_at_call 76; refine hd1.mono ?_; rintro e w5 ⟨rfl, hO5, hR5⟩; clear hc1 hd1; have hc2 := HCC.out w5 (HB.out.dsk.out hO5 (fun j hj hk => HB.out.ap j hj hk)) (Nat.le_trans HB.out.sz hO5.size); have HK5 : Hid (w5.heap[w.heap.size]? = (w.alloc (.cells #[.int .i64 2, .int .i64 n, .string ⟨nm.toArray⟩, .string ⟨to.toArray⟩, .slice a b.length c] 36)).heap[w.heap.size]?) := hO5.block _ HLT.out hS2; obtain ⟨c25, -⟩ := HCE.out w5 HK5.out)
      | (go_at_call 31; refine hc2.mono ?_; rintro e w6 ⟨rfl, hT6⟩; have HB6 : Hid (∃ S3 S4, Bth N S3 S4 w0 w6 d B (doSync p nm).2) := ⟨_, _, HB.out.dc hO5 hR5 hT6 (HGD.out _ _ hT6.dsk)⟩; obtain ⟨c26, -⟩ := HCE.out w6 ((hT6.out.block _ (Nat.lt_of_lt_of_le HLT.out hO5.size) hS1).trans HK5.out))
      | fail)
  all_goals (go_wp2; go_ret; exact ⟨by simp, by rw [HT.out]; exact HB6.out⟩)

set_option maxRecDepth 100000 in
set_option maxHeartbeats 20000000 in
theorem does_3 {N : Nat} {S1 S2 : Nat → Prop} {w0 w : World} {d B : Nat} {p : PD} (h : Bth N S1 S2 w0 w d B p) (n : Int) (nm to : List UInt8) (a : Option Addr) (c : Nat) (b : List UInt8) (h1 : nm.length ≤ maxLen) (h2 : to.length ≤ maxLen) (h3 : n < 9223372036854775808) :
    Calls Tryz.prog 39 #[.pointer (some ⟨d, 0, none⟩), .pointer (some ⟨B, 0, none⟩), .agg #[.int .i64 3, .int .i64 n, .string ⟨nm.toArray⟩, .string ⟨to.toArray⟩, .slice a b.length c]] w fun r w' => r = .returned (.bool true) ∧ ∃ S3 S4, Bth N S3 S4 w0 w' d B (toldP p ⟨3, n, nm, to, a, c, b⟩).2 := by
  have hG := h.good
  have hb0 : Bth N S1 S2 w0 (w.alloc (.cells #[.int .i64 3, .int .i64 n, .string ⟨nm.toArray⟩, .string ⟨to.toArray⟩, .slice a b.length c] 36)).drew d B p := (h.below ((Below.refl _ w).alloc (Nat.le_refl _) _)).drew
  have HB : Hid (Bth N S1 S2 w0 (w.alloc (.cells #[.int .i64 3, .int .i64 n, .string ⟨nm.toArray⟩, .string ⟨to.toArray⟩, .slice a b.length c] 36)).drew d B p) := hb0
  have HT : Hid ((toldP p ⟨3, n, nm, to, a, c, b⟩).2 = (doCut p nm n).2) := rfl
  have HGD : Hid (∀ (S : Nat → Prop) (w' : World), Dsk N w' S d (doCut p nm n).2 → Good (doCut p nm n).2) := fun S w' h9 => good_told hG ⟨3, n, nm, to, a, c, b⟩ h3 h9
  have hS1 : ¬ S1 w.heap.size := fun hs => by have := h.dsk.inn _ hs; omega
  have hS2 : ¬ S2 w.heap.size := fun hs => by have := h.rds.inn _ hs; omega
  have HCC : Hid (∀ w5, Dsk N w5 S1 d p → N ≤ w5.heap.size → Calls Tryz.prog 27 #[.pointer (some ⟨d, 0, none⟩), .string ⟨nm.toArray⟩, .int .i64 n] w5 fun r w' => r = .returned (.int .i64 ((doCut p nm n).1 : Int)) ∧ Then N S1 w5 w' d (doCut p nm n).2) := fun w5 hd hN => code_op (X := fun p => doCut p nm n) hd hN (fun k hk hS => cut_any hk nm h1 n)
  have HDD : Hid (∀ w5, RDs S2 w5 B p → Calls Tryz.prog 78 #[.pointer (some ⟨B, 0, none⟩), .string ⟨nm.toArray⟩, .int .i64 n] w5 fun r w' => RDone S2 w5 B (doCut p nm n) r w') := fun w5 hr => refCut hr hG nm n (by omega)
  have HCE : Hid (∀ w' : World, w'.heap[w.heap.size]? = (w.alloc (.cells #[.int .i64 3, .int .i64 n, .string ⟨nm.toArray⟩, .string ⟨to.toArray⟩, .slice a b.length c] 36)).heap[w.heap.size]? → w'.cell? ⟨w.heap.size, 2, none⟩ = some (.string ⟨nm.toArray⟩) ∧ w'.cell? ⟨w.heap.size, 1, none⟩ = some (.int .i64 n) ∧ True) := fun w' hw => by
    have hR := hw.trans (heap_alloc_new w (.cells #[.int .i64 3, .int .i64 n, .string ⟨nm.toArray⟩, .string ⟨to.toArray⟩, .slice a b.length c] 36))
    exact ⟨by simp [World.cell?, hR], by simp [World.cell?, hR], trivial⟩
  have HLT : Hid (w.heap.size < (w.alloc (.cells #[.int .i64 3, .int .i64 n, .string ⟨nm.toArray⟩, .string ⟨to.toArray⟩, .slice a b.length c] 36)).drew.heap.size) := by show w.heap.size < (w.alloc (.cells #[.int .i64 3, .int .i64 n, .string ⟨nm.toArray⟩, .string ⟨to.toArray⟩, .slice a b.length c] 36)).heap.size; simp
  have hc1 := HCC.out _ hb0.dsk hb0.sz
  have hd1 := HDD.out _ hb0.rds
  clear h hb0 hG
  go_enter Tryz.func39, Tryz.ntmps39
  go_wp2_with fail
  go_region_held3 (fun w' => w'.cell? ⟨w.heap.size, 2, none⟩ = some (.string ⟨nm.toArray⟩) ∧ w'.cell? ⟨w.heap.size, 1, none⟩ = some (.int .i64 n)) (go_keep)
    (first
      | (go_at_call 18; refine (num_any _ _).mono ?_; rintro e wz ⟨rfl, hz⟩; subst wz)
      | (go_at_call 27; refine hc1.mono ?_; rintro e w5 ⟨rfl, hT5⟩; clear hd1 hc1; have hd2 := HDD.out w5 (HB.out.rds.out hT5.out (fun j hj hk => HB.out.ap j hk hj)); have HK5 : Hid (w5.heap[w.heap.size]? = (w.alloc (.cells #[.int .i64 3, .int .i64 n, .string ⟨nm.toArray⟩, .string ⟨to.toArray⟩, .slice a b.length c] 36)).heap[w.heap.size]?) := hT5.out.block _ HLT.out hS1; obtain ⟨c25, c15, -⟩ := HCE.out w5 HK5.out)
      | (go_at_call 78; refine hd2.mono ?_; rintro e w6 ⟨rfl, hO6, hR6⟩; have HB6 : Hid (∃ S3 S4, Bth N S3 S4 w0 w6 d B (doCut p nm n).2) := ⟨_, _, HB.out.cd hT5 hO6 hR6 (HGD.out _ _ hT5.dsk)⟩; obtain ⟨c26, c16, -⟩ := HCE.out w6 ((hO6.block _ (Nat.lt_of_lt_of_le HLT.out hT5.out.size) hS2).trans HK5.out))
      | (go_at_call 78; refine hd1.mono ?_; rintro e w5 ⟨rfl, hO5, hR5⟩; clear hc1 hd1; have hc2 := HCC.out w5 (HB.out.dsk.out hO5 (fun j hj hk => HB.out.ap j hj hk)) (Nat.le_trans HB.out.sz hO5.size); have HK5 : Hid (w5.heap[w.heap.size]? = (w.alloc (.cells #[.int .i64 3, .int .i64 n, .string ⟨nm.toArray⟩, .string ⟨to.toArray⟩, .slice a b.length c] 36)).heap[w.heap.size]?) := hO5.block _ HLT.out hS2; obtain ⟨c25, c15, -⟩ := HCE.out w5 HK5.out)
      | (go_at_call 27; refine hc2.mono ?_; rintro e w6 ⟨rfl, hT6⟩; have HB6 : Hid (∃ S3 S4, Bth N S3 S4 w0 w6 d B (doCut p nm n).2) := ⟨_, _, HB.out.dc hO5 hR5 hT6 (HGD.out _ _ hT6.dsk)⟩; obtain ⟨c26, c16, -⟩ := HCE.out w6 ((hT6.out.block _ (Nat.lt_of_lt_of_le HLT.out hO5.size) hS1).trans HK5.out))
      | fail)
  all_goals (go_wp2; go_ret; exact ⟨by simp, by rw [HT.out]; exact HB6.out⟩)

set_option maxRecDepth 100000 in
set_option maxHeartbeats 20000000 in
theorem does_4 {N : Nat} {S1 S2 : Nat → Prop} {w0 w : World} {d B : Nat} {p : PD} (h : Bth N S1 S2 w0 w d B p) (n : Int) (nm to : List UInt8) (a : Option Addr) (c : Nat) (b : List UInt8) (h1 : nm.length ≤ maxLen) (h2 : to.length ≤ maxLen) (h3 : n < 9223372036854775808) :
    Calls Tryz.prog 39 #[.pointer (some ⟨d, 0, none⟩), .pointer (some ⟨B, 0, none⟩), .agg #[.int .i64 4, .int .i64 n, .string ⟨nm.toArray⟩, .string ⟨to.toArray⟩, .slice a b.length c]] w fun r w' => r = .returned (.bool true) ∧ ∃ S3 S4, Bth N S3 S4 w0 w' d B (toldP p ⟨4, n, nm, to, a, c, b⟩).2 := by
  have hG := h.good
  have hb0 : Bth N S1 S2 w0 (w.alloc (.cells #[.int .i64 4, .int .i64 n, .string ⟨nm.toArray⟩, .string ⟨to.toArray⟩, .slice a b.length c] 36)).drew d B p := (h.below ((Below.refl _ w).alloc (Nat.le_refl _) _)).drew
  have HB : Hid (Bth N S1 S2 w0 (w.alloc (.cells #[.int .i64 4, .int .i64 n, .string ⟨nm.toArray⟩, .string ⟨to.toArray⟩, .slice a b.length c] 36)).drew d B p) := hb0
  have HT : Hid ((toldP p ⟨4, n, nm, to, a, c, b⟩).2 = (doRename p nm to).2) := rfl
  have HGD : Hid (∀ (S : Nat → Prop) (w' : World), Dsk N w' S d (doRename p nm to).2 → Good (doRename p nm to).2) := fun S w' h9 => good_told hG ⟨4, n, nm, to, a, c, b⟩ h3 h9
  have hS1 : ¬ S1 w.heap.size := fun hs => by have := h.dsk.inn _ hs; omega
  have hS2 : ¬ S2 w.heap.size := fun hs => by have := h.rds.inn _ hs; omega
  have HCC : Hid (∀ w5, Dsk N w5 S1 d p → N ≤ w5.heap.size → Calls Tryz.prog 64 #[.pointer (some ⟨d, 0, none⟩), .string ⟨nm.toArray⟩, .string ⟨to.toArray⟩] w5 fun r w' => r = .returned (.int .i64 ((doRename p nm to).1 : Int)) ∧ Then N S1 w5 w' d (doRename p nm to).2) := fun w5 hd hN => code_op (X := fun p => doRename p nm to) hd hN (fun k hk hS => rename_any hk nm to h1 h2)
  have HDD : Hid (∀ w5, RDs S2 w5 B p → Calls Tryz.prog 77 #[.pointer (some ⟨B, 0, none⟩), .string ⟨nm.toArray⟩, .string ⟨to.toArray⟩] w5 fun r w' => RDone S2 w5 B (doRename p nm to) r w') := fun w5 hr => refRename hr hG nm to h2
  have HCE : Hid (∀ w' : World, w'.heap[w.heap.size]? = (w.alloc (.cells #[.int .i64 4, .int .i64 n, .string ⟨nm.toArray⟩, .string ⟨to.toArray⟩, .slice a b.length c] 36)).heap[w.heap.size]? → w'.cell? ⟨w.heap.size, 2, none⟩ = some (.string ⟨nm.toArray⟩) ∧ w'.cell? ⟨w.heap.size, 3, none⟩ = some (.string ⟨to.toArray⟩) ∧ True) := fun w' hw => by
    have hR := hw.trans (heap_alloc_new w (.cells #[.int .i64 4, .int .i64 n, .string ⟨nm.toArray⟩, .string ⟨to.toArray⟩, .slice a b.length c] 36))
    exact ⟨by simp [World.cell?, hR], by simp [World.cell?, hR], trivial⟩
  have HLT : Hid (w.heap.size < (w.alloc (.cells #[.int .i64 4, .int .i64 n, .string ⟨nm.toArray⟩, .string ⟨to.toArray⟩, .slice a b.length c] 36)).drew.heap.size) := by show w.heap.size < (w.alloc (.cells #[.int .i64 4, .int .i64 n, .string ⟨nm.toArray⟩, .string ⟨to.toArray⟩, .slice a b.length c] 36)).heap.size; simp
  have hc1 := HCC.out _ hb0.dsk hb0.sz
  have hd1 := HDD.out _ hb0.rds
  clear h hb0 hG
  go_enter Tryz.func39, Tryz.ntmps39
  go_wp2_with fail
  go_region_held3 (fun w' => w'.cell? ⟨w.heap.size, 2, none⟩ = some (.string ⟨nm.toArray⟩) ∧ w'.cell? ⟨w.heap.size, 3, none⟩ = some (.string ⟨to.toArray⟩)) (go_keep)
    (first
      | (go_at_call 18; refine (num_any _ _).mono ?_; rintro e wz ⟨rfl, hz⟩; subst wz)
      | (go_at_call 64; refine hc1.mono ?_; rintro e w5 ⟨rfl, hT5⟩; clear hd1 hc1; have hd2 := HDD.out w5 (HB.out.rds.out hT5.out (fun j hj hk => HB.out.ap j hk hj)); have HK5 : Hid (w5.heap[w.heap.size]? = (w.alloc (.cells #[.int .i64 4, .int .i64 n, .string ⟨nm.toArray⟩, .string ⟨to.toArray⟩, .slice a b.length c] 36)).heap[w.heap.size]?) := hT5.out.block _ HLT.out hS1; obtain ⟨c25, c35, -⟩ := HCE.out w5 HK5.out)
      | (go_at_call 77; refine hd2.mono ?_; rintro e w6 ⟨rfl, hO6, hR6⟩; have HB6 : Hid (∃ S3 S4, Bth N S3 S4 w0 w6 d B (doRename p nm to).2) := ⟨_, _, HB.out.cd hT5 hO6 hR6 (HGD.out _ _ hT5.dsk)⟩; obtain ⟨c26, c36, -⟩ := HCE.out w6 ((hO6.block _ (Nat.lt_of_lt_of_le HLT.out hT5.out.size) hS2).trans HK5.out))
      | (go_at_call 77; refine hd1.mono ?_; rintro e w5 ⟨rfl, hO5, hR5⟩; clear hc1 hd1; have hc2 := HCC.out w5 (HB.out.dsk.out hO5 (fun j hj hk => HB.out.ap j hj hk)) (Nat.le_trans HB.out.sz hO5.size); have HK5 : Hid (w5.heap[w.heap.size]? = (w.alloc (.cells #[.int .i64 4, .int .i64 n, .string ⟨nm.toArray⟩, .string ⟨to.toArray⟩, .slice a b.length c] 36)).heap[w.heap.size]?) := hO5.block _ HLT.out hS2; obtain ⟨c25, c35, -⟩ := HCE.out w5 HK5.out)
      | (go_at_call 64; refine hc2.mono ?_; rintro e w6 ⟨rfl, hT6⟩; have HB6 : Hid (∃ S3 S4, Bth N S3 S4 w0 w6 d B (doRename p nm to).2) := ⟨_, _, HB.out.dc hO5 hR5 hT6 (HGD.out _ _ hT6.dsk)⟩; obtain ⟨c26, c36, -⟩ := HCE.out w6 ((hT6.out.block _ (Nat.lt_of_lt_of_le HLT.out hO5.size) hS1).trans HK5.out))
      | fail)
  all_goals (go_wp2; go_ret; exact ⟨by simp, by rw [HT.out]; exact HB6.out⟩)

set_option maxRecDepth 100000 in
set_option maxHeartbeats 20000000 in
theorem does_5 {N : Nat} {S1 S2 : Nat → Prop} {w0 w : World} {d B : Nat} {p : PD} (h : Bth N S1 S2 w0 w d B p) (n : Int) (nm to : List UInt8) (a : Option Addr) (c : Nat) (b : List UInt8) (h1 : nm.length ≤ maxLen) (h2 : to.length ≤ maxLen) (h3 : n < 9223372036854775808) :
    Calls Tryz.prog 39 #[.pointer (some ⟨d, 0, none⟩), .pointer (some ⟨B, 0, none⟩), .agg #[.int .i64 5, .int .i64 n, .string ⟨nm.toArray⟩, .string ⟨to.toArray⟩, .slice a b.length c]] w fun r w' => r = .returned (.bool true) ∧ ∃ S3 S4, Bth N S3 S4 w0 w' d B (toldP p ⟨5, n, nm, to, a, c, b⟩).2 := by
  have hG := h.good
  have hb0 : Bth N S1 S2 w0 (w.alloc (.cells #[.int .i64 5, .int .i64 n, .string ⟨nm.toArray⟩, .string ⟨to.toArray⟩, .slice a b.length c] 36)).drew d B p := (h.below ((Below.refl _ w).alloc (Nat.le_refl _) _)).drew
  have HB : Hid (Bth N S1 S2 w0 (w.alloc (.cells #[.int .i64 5, .int .i64 n, .string ⟨nm.toArray⟩, .string ⟨to.toArray⟩, .slice a b.length c] 36)).drew d B p) := hb0
  have HT : Hid ((toldP p ⟨5, n, nm, to, a, c, b⟩).2 = (doRemove p nm).2) := rfl
  have HGD : Hid (∀ (S : Nat → Prop) (w' : World), Dsk N w' S d (doRemove p nm).2 → Good (doRemove p nm).2) := fun S w' h9 => good_told hG ⟨5, n, nm, to, a, c, b⟩ h3 h9
  have hS1 : ¬ S1 w.heap.size := fun hs => by have := h.dsk.inn _ hs; omega
  have hS2 : ¬ S2 w.heap.size := fun hs => by have := h.rds.inn _ hs; omega
  have HCC : Hid (∀ w5, Dsk N w5 S1 d p → N ≤ w5.heap.size → Calls Tryz.prog 59 #[.pointer (some ⟨d, 0, none⟩), .string ⟨nm.toArray⟩] w5 fun r w' => r = .returned (.int .i64 ((doRemove p nm).1 : Int)) ∧ Then N S1 w5 w' d (doRemove p nm).2) := fun w5 hd hN => code_op (X := fun p => doRemove p nm) hd hN (fun k hk hS => remove_any hk nm h1)
  have HDD : Hid (∀ w5, RDs S2 w5 B p → Calls Tryz.prog 73 #[.pointer (some ⟨B, 0, none⟩), .string ⟨nm.toArray⟩] w5 fun r w' => RDone S2 w5 B (doRemove p nm) r w') := fun w5 hr => refRemove hr hG nm
  have HCE : Hid (∀ w' : World, w'.heap[w.heap.size]? = (w.alloc (.cells #[.int .i64 5, .int .i64 n, .string ⟨nm.toArray⟩, .string ⟨to.toArray⟩, .slice a b.length c] 36)).heap[w.heap.size]? → w'.cell? ⟨w.heap.size, 2, none⟩ = some (.string ⟨nm.toArray⟩) ∧ True) := fun w' hw => by
    have hR := hw.trans (heap_alloc_new w (.cells #[.int .i64 5, .int .i64 n, .string ⟨nm.toArray⟩, .string ⟨to.toArray⟩, .slice a b.length c] 36))
    exact ⟨by simp [World.cell?, hR], trivial⟩
  have HLT : Hid (w.heap.size < (w.alloc (.cells #[.int .i64 5, .int .i64 n, .string ⟨nm.toArray⟩, .string ⟨to.toArray⟩, .slice a b.length c] 36)).drew.heap.size) := by show w.heap.size < (w.alloc (.cells #[.int .i64 5, .int .i64 n, .string ⟨nm.toArray⟩, .string ⟨to.toArray⟩, .slice a b.length c] 36)).heap.size; simp
  have hc1 := HCC.out _ hb0.dsk hb0.sz
  have hd1 := HDD.out _ hb0.rds
  clear h hb0 hG
  go_enter Tryz.func39, Tryz.ntmps39
  go_wp2_with fail
  go_region_held3 (fun w' => w'.cell? ⟨w.heap.size, 2, none⟩ = some (.string ⟨nm.toArray⟩)) (go_keep)
    (first
      | (go_at_call 18; refine (num_any _ _).mono ?_; rintro e wz ⟨rfl, hz⟩; subst wz)
      | (go_at_call 59; refine hc1.mono ?_; rintro e w5 ⟨rfl, hT5⟩; clear hd1 hc1; have hd2 := HDD.out w5 (HB.out.rds.out hT5.out (fun j hj hk => HB.out.ap j hk hj)); have HK5 : Hid (w5.heap[w.heap.size]? = (w.alloc (.cells #[.int .i64 5, .int .i64 n, .string ⟨nm.toArray⟩, .string ⟨to.toArray⟩, .slice a b.length c] 36)).heap[w.heap.size]?) := hT5.out.block _ HLT.out hS1; obtain ⟨c25, -⟩ := HCE.out w5 HK5.out)
      | (go_at_call 73; refine hd2.mono ?_; rintro e w6 ⟨rfl, hO6, hR6⟩; have HB6 : Hid (∃ S3 S4, Bth N S3 S4 w0 w6 d B (doRemove p nm).2) := ⟨_, _, HB.out.cd hT5 hO6 hR6 (HGD.out _ _ hT5.dsk)⟩; obtain ⟨c26, -⟩ := HCE.out w6 ((hO6.block _ (Nat.lt_of_lt_of_le HLT.out hT5.out.size) hS2).trans HK5.out))
      | (go_at_call 73; refine hd1.mono ?_; rintro e w5 ⟨rfl, hO5, hR5⟩; clear hc1 hd1; have hc2 := HCC.out w5 (HB.out.dsk.out hO5 (fun j hj hk => HB.out.ap j hj hk)) (Nat.le_trans HB.out.sz hO5.size); have HK5 : Hid (w5.heap[w.heap.size]? = (w.alloc (.cells #[.int .i64 5, .int .i64 n, .string ⟨nm.toArray⟩, .string ⟨to.toArray⟩, .slice a b.length c] 36)).heap[w.heap.size]?) := hO5.block _ HLT.out hS2; obtain ⟨c25, -⟩ := HCE.out w5 HK5.out)
      | (go_at_call 59; refine hc2.mono ?_; rintro e w6 ⟨rfl, hT6⟩; have HB6 : Hid (∃ S3 S4, Bth N S3 S4 w0 w6 d B (doRemove p nm).2) := ⟨_, _, HB.out.dc hO5 hR5 hT6 (HGD.out _ _ hT6.dsk)⟩; obtain ⟨c26, -⟩ := HCE.out w6 ((hT6.out.block _ (Nat.lt_of_lt_of_le HLT.out hO5.size) hS1).trans HK5.out))
      | fail)
  all_goals (go_wp2; go_ret; exact ⟨by simp, by rw [HT.out]; exact HB6.out⟩)
end Go.Proofs.YtadajbdmlmickaaGreatDoor
namespace Go.Proofs.YtadajbdmlmickaaGreatDoor
open Go.RowKit Go.Shelf
set_option linter.unusedVariables false

/-- Bytes of the call's own are written over. -/
theorem Ow.poke {N : Nat} {w : World} {g L c : Nat} {dat : List UInt8} (h : Ow N w (.slice (some ⟨g, 0, none⟩) L c) dat) (hl : dat.length = L) (k : Nat) (x : UInt8) : Ow N (w.setCell ⟨g, k, none⟩ (encB x)) (.slice (some ⟨g, 0, none⟩) L c) (dat.set k x) ∧ w.grownBy (w.setCell ⟨g, k, none⟩ (encB x)) (some g) := by
  subst hl
  have h9 := World.ownsRow.stored h k (encB x)
  refine ⟨?_, h9.2⟩
  show World.ownsRow _ _ _ _ _ _ _
  rw [List.length_set, List.map_set]
  exact h9.1
theorem Ow.cells {N : Nat} {w : World} {g L c : Nat} {dat : List UInt8} (h : Ow N w (.slice (some ⟨g, 0, none⟩) L c) dat) (hl : dat.length = L) {k : Nat} (hk : k < L) : (∃ u, w.cell? ⟨g, k, none⟩ = some u) ∧ w.frozen? ⟨g, k, none⟩ = false := by
  subst hl
  refine ⟨?_, World.ownsRow.frozenAt h k⟩
  have h9 := World.ownsRow.cellAt h k (by omega)
  rw [h9, List.getElem?_map, List.getElem?_eq_getElem hk]
  exact ⟨_, rfl⟩

set_option maxRecDepth 100000 in
set_option maxHeartbeats 20000000 in
theorem does_else {N : Nat} {S1 S2 : Nat → Prop} {w0 w : World} {d B : Nat} {p : PD} (h : Bth N S1 S2 w0 w d B p) (kd n : Int) (hkd : kd ≠ 0 ∧ kd ≠ 1 ∧ kd ≠ 2 ∧ kd ≠ 3 ∧ kd ≠ 4 ∧ kd ≠ 5 ∧ kd ≠ 6 ∧ kd ≠ 7) (nm to : List UInt8) (a : Option Addr) (c : Nat) (b : List UInt8) (h1 : nm.length ≤ maxLen) (h2 : to.length ≤ maxLen) (h3 : n < 9223372036854775808) :
    Calls Tryz.prog 39 #[.pointer (some ⟨d, 0, none⟩), .pointer (some ⟨B, 0, none⟩), .agg #[.int .i64 kd, .int .i64 n, .string ⟨nm.toArray⟩, .string ⟨to.toArray⟩, .slice a b.length c]] w fun r w' => r = .returned (.bool true) ∧ ∃ S3 S4, Bth N S3 S4 w0 w' d B (toldP p ⟨kd, n, nm, to, a, c, b⟩).2 := by
  obtain ⟨q0, q1, q2, q3, q4, q5, q6, q7⟩ := hkd
  have e0 : (kd == 0) = false := by simpa using q0
  have e1 : (kd == 1) = false := by simpa using q1
  have e2 : (kd == 2) = false := by simpa using q2
  have e3 : (kd == 3) = false := by simpa using q3
  have e4 : (kd == 4) = false := by simpa using q4
  have e5 : (kd == 5) = false := by simpa using q5
  have e6 : (kd == 6) = false := by simpa using q6
  have e7 : (kd == 7) = false := by simpa using q7
  have HT : Hid ((toldP p ⟨kd, n, nm, to, a, c, b⟩).2 = p) := by show (toldP p ⟨kd, n, nm, to, a, c, b⟩).2 = p; simp [toldP, q0, q1, q2, q3, q4, q5, q6, q7]
  have hb0 : Bth N S1 S2 w0 (w.alloc (.cells #[.int .i64 kd, .int .i64 n, .string ⟨nm.toArray⟩, .string ⟨to.toArray⟩, .slice a b.length c] 36)) d B p := h.below ((Below.refl _ w).alloc (Nat.le_refl _) _)
  have HBW : Hid (∀ w', Below (w.alloc (.cells #[.int .i64 kd, .int .i64 n, .string ⟨nm.toArray⟩, .string ⟨to.toArray⟩, .slice a b.length c] 36)).heap.size (w.alloc (.cells #[.int .i64 kd, .int .i64 n, .string ⟨nm.toArray⟩, .string ⟨to.toArray⟩, .slice a b.length c] 36)) w' → Bth N S1 S2 w0 w' d B p) := fun w' hB => hb0.below hB
  have HLT : Hid (w.heap.size < (w.alloc (.cells #[.int .i64 kd, .int .i64 n, .string ⟨nm.toArray⟩, .string ⟨to.toArray⟩, .slice a b.length c] 36)).heap.size) := by show w.heap.size < (w.alloc (.cells #[.int .i64 kd, .int .i64 n, .string ⟨nm.toArray⟩, .string ⟨to.toArray⟩, .slice a b.length c] 36)).heap.size; simp
  have HCE : Hid (∀ w', Below (w.alloc (.cells #[.int .i64 kd, .int .i64 n, .string ⟨nm.toArray⟩, .string ⟨to.toArray⟩, .slice a b.length c] 36)).heap.size (w.alloc (.cells #[.int .i64 kd, .int .i64 n, .string ⟨nm.toArray⟩, .string ⟨to.toArray⟩, .slice a b.length c] 36)) w' → w'.cell? ⟨w.heap.size, 2, none⟩ = some (.string ⟨nm.toArray⟩)) := fun w' hB => by
    have hR := (hB.block w.heap.size HLT.out).trans (heap_alloc_new w (.cells #[.int .i64 kd, .int .i64 n, .string ⟨nm.toArray⟩, .string ⟨to.toArray⟩, .slice a b.length c] 36))
    simp [World.cell?, hR]
  obtain ⟨dat, ee, HRD, HBO⟩ : ∃ (dat : List UInt8) (ee : Nat), Hid (rdP p nm = (dat, ee)) ∧ Hid ((lookP nm p.fs).isSome = ((ee : Int) == 0)) := by
    cases hl : lookP nm p.fs with
    | none => exact ⟨[], 8, by show rdP p nm = _; unfold rdP; rw [hl], by show _ = _; rfl⟩
    | some q => exact ⟨q.dat, 0, by show rdP p nm = _; unfold rdP; rw [hl], by show _ = _; rfl⟩
  have hca := read_dsk hb0.dsk nm h1
  rw [HRD.out] at hca
  have HDA : Hid (∀ w', Below (w.alloc (.cells #[.int .i64 kd, .int .i64 n, .string ⟨nm.toArray⟩, .string ⟨to.toArray⟩, .slice a b.length c] 36)).heap.size (w.alloc (.cells #[.int .i64 kd, .int .i64 n, .string ⟨nm.toArray⟩, .string ⟨to.toArray⟩, .slice a b.length c] 36)) w' → Calls Tryz.prog 42 #[.pointer (some ⟨B, 0, none⟩), .string ⟨nm.toArray⟩] w' fun r w'' => ∃ v, r = .returned (.tuple #[v, .int .i64 (ee : Int)]) ∧ Ow w'.heap.size w'' v dat ∧ Below w'.heap.size w' w'') := fun w' hB => by
    have h9 := refRead (HBW.out w' hB).rds (HBW.out w' hB).good nm
    rw [HRD.out] at h9
    exact h9
  have HHA : Hid (∀ w', Below (w.alloc (.cells #[.int .i64 kd, .int .i64 n, .string ⟨nm.toArray⟩, .string ⟨to.toArray⟩, .slice a b.length c] 36)).heap.size (w.alloc (.cells #[.int .i64 kd, .int .i64 n, .string ⟨nm.toArray⟩, .string ⟨to.toArray⟩, .slice a b.length c] 36)) w' → Calls Tryz.prog 57 #[.pointer (some ⟨d, 0, none⟩), .string ⟨nm.toArray⟩] w' fun r w'' => r = .returned (.bool ((ee : Int) == 0)) ∧ w'' = w') := fun w' hB => by
    have h9 := has_dsk (HBW.out w' hB).dsk nm h1
    rw [HBO.out] at h9
    exact h9
  have c2 := HCE.out (w.alloc (.cells #[.int .i64 kd, .int .i64 n, .string ⟨nm.toArray⟩, .string ⟨to.toArray⟩, .slice a b.length c] 36)) (Below.refl _ _)
  clear h hb0 q0 q1 q2 q3 q4 q5 q6 q7
  go_enter Tryz.func39, Tryz.ntmps39
  go_wp2_with fail
  refine hca.mono ?_
  rintro e w2 ⟨v2, rfl, hO2, hB2⟩
  obtain ⟨xa, xc, rfl, hxl, hxm⟩ := hO2.shape
  have HO2 : Hid (Ow (w.alloc (.cells #[.int .i64 kd, .int .i64 n, .string ⟨nm.toArray⟩, .string ⟨to.toArray⟩, .slice a b.length c] 36)).heap.size w2 (.slice xa dat.length xc) dat) := hO2
  have HB2 : Hid (Below (w.alloc (.cells #[.int .i64 kd, .int .i64 n, .string ⟨nm.toArray⟩, .string ⟨to.toArray⟩, .slice a b.length c] 36)).heap.size (w.alloc (.cells #[.int .i64 kd, .int .i64 n, .string ⟨nm.toArray⟩, .string ⟨to.toArray⟩, .slice a b.length c] 36)) w2) := hB2
  have c3 := HCE.out w2 hB2
  have hda := HDA.out w2 hB2
  clear hca hO2 hB2 c2
  go_wp2_with fail
  refine hda.mono ?_
  rintro e w3 ⟨v3, rfl, hO3, hB3⟩
  obtain ⟨ya, yc, rfl, hyl, hym⟩ := hO3.shape
  have HB3 : Hid (Below (w.alloc (.cells #[.int .i64 kd, .int .i64 n, .string ⟨nm.toArray⟩, .string ⟨to.toArray⟩, .slice a b.length c] 36)).heap.size (w.alloc (.cells #[.int .i64 kd, .int .i64 n, .string ⟨nm.toArray⟩, .string ⟨to.toArray⟩, .slice a b.length c] 36)) w3) := HB2.out.trans (hB3.mono HB2.out.size)
  have hO23 := HO2.out.below hB3 (Nat.le_refl _)
  have HO3 : Hid (Ow (w.alloc (.cells #[.int .i64 kd, .int .i64 n, .string ⟨nm.toArray⟩, .string ⟨to.toArray⟩, .slice a b.length c] 36)).heap.size w3 (.slice xa dat.length xc) dat) := hO23
  have hsa := same_any w3.heap.size _ _ dat dat w3 (hO23.sl (Nat.le_refl _)) (hO3.sl (Nat.le_refl _))
  rw [show decide (dat = dat) = true from by simp] at hsa
  have hdm : dat.length ≤ 9223372036854775807 := by unfold maxLen at hxm; omega
  clear hda hO3 hO23 hB3 c3
  go_wp2_with fail
  refine hsa.mono ?_
  rintro e w4 ⟨rfl, n4, rfl⟩
  go_wp2_with fail
  go_loopw [16] (fun iv wr => ∃ (k : Nat) (dd : List UInt8), iv = .int .i64 (k : Int) ∧ k ≤ dat.length ∧ dd.length = dat.length ∧ Ow (w.alloc (.cells #[.int .i64 kd, .int .i64 n, .string ⟨nm.toArray⟩, .string ⟨to.toArray⟩, .slice a b.length c] 36)).heap.size wr (.slice xa dat.length xc) dd ∧ Below (w.alloc (.cells #[.int .i64 kd, .int .i64 n, .string ⟨nm.toArray⟩, .string ⟨to.toArray⟩, .slice a b.length c] 36)).heap.size (w.alloc (.cells #[.int .i64 kd, .int .i64 n, .string ⟨nm.toArray⟩, .string ⟨to.toArray⟩, .slice a b.length c] 36)) wr) (fun iv _ => dat.length - (intOf iv).toNat)
  case atStart => exact ⟨0, dat, rfl, Nat.zero_le _, rfl, HO3.out, HB3.out.trans ⟨rfl, rfl, rfl, Nat.le_refl _, fun _ _ => rfl⟩⟩
  case round =>
    obtain ⟨k, dd, rfl, hk, hdl, hO, hB⟩ := hrel
    have HO : Hid (Ow (w.alloc (.cells #[.int .i64 kd, .int .i64 n, .string ⟨nm.toArray⟩, .string ⟨to.toArray⟩, .slice a b.length c] 36)).heap.size wr (.slice xa dat.length xc) dd) := hO
    have HDL : Hid (dd.length = dat.length) := hdl
    have HB : Hid (Below (w.alloc (.cells #[.int .i64 kd, .int .i64 n, .string ⟨nm.toArray⟩, .string ⟨to.toArray⟩, .slice a b.length c] 36)).heap.size (w.alloc (.cells #[.int .i64 kd, .int .i64 n, .string ⟨nm.toArray⟩, .string ⟨to.toArray⟩, .slice a b.length c] 36)) wr) := hB
    by_cases hlt : k < dat.length
    · have hi0 : (0 : Int) ≤ (k : Int) := by omega
      have hi1 : (k : Int) < (dat.length : Int) := by omega
      have hO' : wr.ownsRow (w.alloc (.cells #[.int .i64 kd, .int .i64 n, .string ⟨nm.toArray⟩, .string ⟨to.toArray⟩, .slice a b.length c] 36)).heap.size 5 1 (.slice xa dat.length xc) dat.length (dd.map encB) := by have h9 := hO; unfold Ow at h9; rw [hdl] at h9; exact h9
      obtain ⟨g, gc, hge, -⟩ := row_some hO' (by omega)
      cases hge
      obtain ⟨⟨u, b1⟩, b2⟩ := hO.cells hdl hlt
      clear hO hO' hdl hB
      go_wp2
      have h9 := HO.out.poke HDL.out k 98
      exact ⟨⟨k + 1, dd.set k 98, by go_num, by omega, by rw [List.length_set]; exact HDL.out, h9.1, HB.out.grown h9.2 HB.out.size (fun j hj => by cases hj; exact (World.ownsRow.lt HO.out g rfl).1)⟩, by simp [intOf]; omega⟩
    · have hge : decide ((k : Int) < (dat.length : Int)) = false := by simp; omega
      have c9 := HCE.out wr hB
      have hha := HHA.out wr hB
      clear hO hdl hB
      go_wp2_with (first
        | (go_at_call 18; refine (num_any _ _).mono ?_; rintro e wz ⟨rfl, hz⟩; subst wz)
        | (go_at_call 57; refine hha.mono ?_; rintro e wz ⟨rfl, hz⟩; subst wz)
        | fail)
      go_ret
      exact ⟨by simp, S1, S2, by rw [HT.out]; exact HBW.out wr HB.out⟩
end Go.Proofs.YtadajbdmlmickaaGreatDoor
namespace Go.Proofs.YtadajbdmlmickaaGreatDoor
open Go.RowKit Go.Shelf
set_option linter.unusedVariables false
theorem run_append_owX (ty : TypeId) (w : World) (N M : Nat) (v xv : Value) (l m : List UInt8) (hv : Ow N w v l) (hsl : Sl M w xv m) (hlen : l.length + m.length ≤ 140737488355328) (hN : N ≤ w.heap.size) :
    ∃ v' w', (Builtin.append_ #[32, 32] ty #[v, xv]).run Tryz.prog w = .ok v' w' ∧ Ow N w' v' (l ++ m) ∧ w.grownBy w' v.ownBlock ∧ (v'.ownBlock = v.ownBlock ∨ v'.ownBlock = some w.heap.size) := by
  obtain ⟨i0, hi, hz0, hz1, hz2⟩ := info_parts info5
  obtain ⟨a, cap, rfl, h1, h2, h3⟩ := hsl
  have key : ∀ ad : Addr, (∀ j u, (m.map encB)[j]? = some u → w.cell? (ad.add j) = some u) → ∃ v' w', (Builtin.append_ #[32, 32] ty #[v, .slice (some ad) m.length cap]).run Tryz.prog w = .ok v' w' ∧ Ow N w' v' (l ++ m) ∧ w.grownBy w' v.ownBlock ∧ (v'.ownBlock = v.ownBlock ∨ v'.ownBlock = some w.heap.size) := by
    intro ad had
    obtain ⟨v', w', r1, r2, r3, _, r5⟩ := run_append_own_at (P := Tryz.prog) w N 32 ty 5 i0 (.int .u8 0) 1 1 Tryz.underlying32 hi hz0 hz1 hz2 rfl (by decide) v l.length (l.map encB) hv ad m.length cap (m.map encB) (by simp) had (by intro u hu; obtain ⟨x, _, rfl⟩ := List.mem_map.1 hu; rfl) (by unfold maxLen; omega) (by omega) hN
    exact ⟨v', w', r1, by unfold Ow; simpa using r2, r3, r5⟩
  rcases h3 with rfl | ⟨b, off, rfl, hb, hc⟩
  · cases a with
    | none =>
      refine ⟨v, w, ?_, by simpa using hv, grown_refl w _, .inl rfl⟩
      rcases hv.2 with ⟨rfl, _⟩ | ⟨g, cap', cur, rfl, _, _, hnc, _⟩
      · simp [Builtin.append_, run_underlying Tryz.underlying32, sizeOf, typeInfo, hi, Builtin.lenOf, Builtin.firstCells]
      · simp [Builtin.append_, run_underlying Tryz.underlying32, sizeOf, typeInfo, hi, Builtin.lenOf, Builtin.firstCells, hnc, storeCells]
    | some ad => exact key ad (by simp)
  · refine key _ (fun j u hj => ?_)
    simp only [List.getElem?_map, Option.map_eq_some_iff] at hj
    obtain ⟨x, hx, rfl⟩ := hj
    have hlt := (List.getElem?_eq_some_iff.1 hx).1
    have := hc j hlt
    rw [hx] at this
    rw [Addr.add_lit]
    simpa using this


theorem wpList_append_owX {ops : Array Oper} {rest : List Oper} {o : Oper} {a : Act} {Q : Exit → Act → World → Prop} {w : World} (hgd : o.guard = none) (s x : Operand)
    (ho : o.op = .call { callee := .builtin .append, args := #[s, x], argTypes := #[32, 32] })
    (N M : Nat) (v xv : Value) (l m : List UInt8) (hs : a.eval s = v) (hv : Ow N w v l) (hx : a.eval x = xv) (hsl : Sl M w xv m) (hlen : l.length + m.length ≤ 140737488355328) (hN : N ≤ w.heap.size)
    (h : ∀ v' w', Ow N w' v' (l ++ m) → w.grownBy w' v.ownBlock → (v'.ownBlock = v.ownBlock ∨ v'.ownBlock = some w.heap.size) → wpList Tryz.prog ops Q rest (a.put o.dst v') w') :
    wpList Tryz.prog ops Q (o :: rest) a w := by
  refine wpList_plain hgd fun K hK => ?_
  obtain ⟨v', w', hr, h2, h3, h4⟩ := run_append_owX o.type w N M v xv l m hv hsl hlen hN
  unfold Oper.wp execOp
  simp only [ho, resolve, invoke, builtin, Sem.run_bind, Sem.run_pure, Result.andThen_ok, List.map_toArray, List.map_cons, List.map_nil, hs, hx, hr]
  exact hK _ _ (h v' w' h2 h3 h4)
set_option maxRecDepth 100000 in
set_option maxHeartbeats 4000000 in
theorem bytes_anyX (M : Nat) (v : Value) (l : List UInt8) (w : World) (hv : Sl M w v l) (hM : M ≤ w.heap.size) (hl : l.length ≤ 140737488355328) :
    Calls Tryz.prog 69 #[v] w fun e w' => ∃ v', e = .returned v' ∧ Ow w.heap.size w' v' l ∧ Below w.heap.size w w' := by
  obtain ⟨a, cap, rfl, -⟩ := id hv
  go_enter Tryz.func69, Tryz.ntmps69
  have hO0 : Ow w.heap.size (w.alloc (.cells #[] 5)) (.slice (some ⟨w.heap.size, 0, none⟩) 0 0) [] :=
    ⟨by simp, .inr ⟨w.heap.size, 0, #[], rfl, Nat.le_refl _, heap_alloc_new w _, by simp, by unfold maxLen; omega, by simp, by simp⟩⟩
  have hB0 : Below w.heap.size w (w.alloc (.cells #[] 5)) := (Below.refl _ w).alloc (Nat.le_refl _) _
  have hv1 := hv.below (hB0.mono hM)
  go_wp2_with (at_builtin; refine wpList_append_owX rfl _ _ rfl w.heap.size M _ _ [] l rfl hO0 rfl hv1 (by simpa using hl) (by simp) ?_; intro v' w1 hO hg _)
  go_ret
  exact ⟨v', rfl, hO, hB0.grown hg (by simp) (fun k e => by cases e; exact Nat.le_refl _)⟩

set_option maxRecDepth 100000 in
set_option maxHeartbeats 4000000 in
theorem lent_anyX (M : Nat) (a : Option Addr) (c : Nat) (b : List UInt8) (w : World) (hv : Sl M w (.slice a b.length c) b) (hM : M ≤ w.heap.size) (hl : b.length ≤ 140737488351232) : Calls Tryz.prog 34 #[.slice a b.length c] w fun e w' => ∃ g cap, e = .returned (.slice (some ⟨g, 0, none⟩) b.length cap) ∧ Ow w.heap.size w' (.slice (some ⟨g, 0, none⟩) (b.length + 1) cap) (b ++ [201]) ∧ Below w.heap.size w w' := by
  have hby := bytes_anyX M _ b w hv hM (by omega)
  clear hv
  go_enter Tryz.func34, Tryz.ntmps34
  go_wp2_with (first
    | (go_at_call 69; refine hby.mono ?_; rintro e w1 ⟨v1, rfl, hO1, hB1⟩; have hO1' := hO1.alloc (.cells #[.int .u8 201] 5); have hsl := sl_new w1 [201] #[.int .u8 201] (by decide) (by decide) rfl; obtain ⟨a1, c1, rfl, -, -⟩ := hO1.shape)
    | (at_builtin; refine wpList_append_owX rfl _ _ rfl w.heap.size (w1.heap.size + 1) _ _ b [201] rfl hO1' rfl hsl (by simp; omega) (by have := hB1.size; simp; omega) ?_; intro v2 w2 hO2 hg2 _; obtain ⟨g, cap, hv2, hc2⟩ := row_some hO2 (by simp); rw [List.length_append] at hv2 hc2; subst hv2; have hc2' : ((b.length : Nat) : Int) ≤ (cap : Int) := (by simp at hc2; omega); have hc3 : (0 : Int) ≤ (b.length : Int) := (by omega); have hc4 : ((b.length : Nat) : Int) ≤ ((b.length + [(201 : UInt8)].length : Nat) : Int) := (by simp only [List.length_cons, List.length_nil]; omega))
    | fail)
  go_ret
  refine ⟨g, cap, rfl, hO2, ?_⟩
  have h1 : Below w.heap.size w (w1.alloc (.cells #[.int .u8 201] 5)) := hB1.alloc hB1.size _
  exact h1.grown hg2 (by have := hB1.size; simp; omega) (fun k hk => (World.ownsRow.lt hO1 k hk).1)


set_option maxRecDepth 100000 in
set_option maxHeartbeats 4000000 in
theorem kept_anyX (N M : Nat) (g cap : Nat) (a : Option Addr) (c : Nat) (b : List UInt8) (w : World) (h1 : Ow N w (.slice (some ⟨g, 0, none⟩) (b.length + 1) cap) (b ++ [201])) (h2 : Sl M w (.slice a b.length c) b) (hM : M ≤ w.heap.size) (hl : b.length ≤ 140737488351232) : Calls Tryz.prog 35 #[.slice (some ⟨g, 0, none⟩) b.length cap, .slice a b.length c] w fun e w' => e = .returned (.bool true) ∧ Below w.heap.size w w' := by
  have hs1 : Sl w.heap.size w (.slice (some ⟨g, 0, none⟩) b.length cap) b := by
    have h9 := (h1.sl (Nat.le_refl _))
    have e : b.length + 1 = (b ++ [(201 : UInt8)]).length := by simp
    rw [e] at h9
    have h8 := h9.front b.length (by simp)
    simpa using h8
  have hsa := same_any w.heap.size _ _ b b w hs1 (h2.mono hM)
  have hcap : b.length + 1 ≤ cap := by
    have e : b.length + 1 = (b ++ [(201 : UInt8)]).length := by simp
    rw [e] at h1
    obtain ⟨g', c', e', hc⟩ := row_some h1 (by simp)
    cases e'
    simpa using hc
  have hcell : w.cell? ⟨g, b.length, none⟩ = some (.int .u8 201) := by
    have e : b.length + 1 = (b ++ [(201 : UInt8)]).length := by simp
    rw [e] at h1
    have := World.ownsRow.cellAt h1 b.length (by simp)
    rw [this]
    simp [encB]
  have HC : Hid (∀ n, (w.drewN n).cell? ⟨g, b.length, none⟩ = some (.int .u8 201)) := fun n => hcell
  have hw1 : IntKind.i64.wrap ((b.length : Int) + 1) = (b.length : Int) + 1 := by rw [IntKind.wrap_i64]; omega
  have hw2 : (b.length : Int) + 1 ≤ (cap : Int) := by omega
  have hw3 : (0 : Int) ≤ (b.length : Int) + 1 := by omega
  have hw4 : ((b.length : Int) + 1).toNat = b.length + 1 := by omega
  have hw5 : (0 : Int) ≤ (b.length : Int) := by omega
  have hw6 : (b.length : Int) < (b.length : Int) + 1 := by omega
  clear h1 h2 hs1
  go_enter Tryz.func35, Tryz.ntmps35
  go_wp2_with (first
    | (go_at_call 33; refine hsa.mono ?_; rintro e w1 ⟨rfl, n1, rfl⟩; have hc1 := HC.out n1; rw [show decide (b = b) = true from by simp])
    | fail)
  go_ret
  exact ⟨rfl, ⟨rfl, rfl, rfl, Nat.le_refl _, fun _ _ => rfl⟩⟩


/-- The program's, then something beside, then the document's. -/
theorem Bth.cxd {N : Nat} {S1 S2 X : Nat → Prop} {w0 w w5 w7 w6 : World} {d B : Nat} {p p' : PD} (h : Bth N S1 S2 w0 w d B p) (hT : Then N S1 w w5 d p') (hX : Out X w5 w7) (hx1 : ∀ i, X i → ¬ grew S1 w w5 i) (hx2 : ∀ i, X i → ¬ S2 i) (hxN : ∀ i, X i → N ≤ i) (hO : Out S2 w7 w6) (hR : RDs (grew S2 w7 w6) w6 B p') (hg : Good p') : Bth N (grew S1 w w5) (grew S2 w7 w6) w0 w6 d B p' := by
  have h57 := hX.size
  have hap : ∀ j, grew S1 w w5 j → ¬ grew S2 w7 w6 j := fun j hj hk => by
    rcases hk with hk | hk
    · rcases hj with hj | hj
      · exact h.ap j hj hk
      · have := h.rds.inn j hk; omega
    · have := hT.dsk.inn j hj; omega
  have h5 := Nat.le_trans h.sz hT.out.size
  have d7 := hT.dsk.out hX (fun i hi hx => hx1 i hx hi)
  exact ⟨d7.out hO (fun j hj hk => hap j hj (.inl hk)), hR, hap, fun j hj => hj.elim (h.fr j) (fun h9 => by omega), ((h.bel.trans hT.bel).trans (hX.below h5 hxN)).trans (hO.below (by omega) h.fr), h.hN, hg⟩

set_option maxRecDepth 100000 in
set_option maxHeartbeats 20000000 in
theorem does_1 {N : Nat} {S1 S2 : Nat → Prop} {w0 w : World} {d B : Nat} {p : PD} (h : Bth N S1 S2 w0 w d B p) (n : Int) (nm to : List UInt8) (a : Option Addr) (c : Nat) (b : List UInt8) (h1 : nm.length ≤ maxLen) (h2 : to.length ≤ maxLen) (h3 : n < 9223372036854775808) (hx : Sl N w (.slice a b.length c) b) (hbl : b.length ≤ 140737488351232) :
    Calls Tryz.prog 39 #[.pointer (some ⟨d, 0, none⟩), .pointer (some ⟨B, 0, none⟩), .agg #[.int .i64 1, .int .i64 n, .string ⟨nm.toArray⟩, .string ⟨to.toArray⟩, .slice a b.length c]] w fun r w' => r = .returned (.bool true) ∧ ∃ S3 S4, Bth N S3 S4 w0 w' d B (toldP p ⟨1, n, nm, to, a, c, b⟩).2 := by
  have hb0 : Bth N S1 S2 w0 (w.alloc (.cells #[.int .i64 1, .int .i64 n, .string ⟨nm.toArray⟩, .string ⟨to.toArray⟩, .slice a b.length c] 36)) d B p := h.below ((Below.refl _ w).alloc (Nat.le_refl _) _)
  have HT : Hid ((toldP p ⟨1, n, nm, to, a, c, b⟩).2 = (doAppend p nm b).2) := rfl
  have HGD : Hid (∀ (S : Nat → Prop) (w' : World), Dsk N w' S d (doAppend p nm b).2 → Good (doAppend p nm b).2) := fun S w' h9 => good_told h.good ⟨1, n, nm, to, a, c, b⟩ h3 h9
  have hbx : N ≤ w.heap.size := h.sz
  have HX : Hid (∀ w', Below N w w' → Sl N w' (.slice a b.length c) b) := fun w' hB => hx.below hB
  have HBW : Hid (Below N w (w.alloc (.cells #[.int .i64 1, .int .i64 n, .string ⟨nm.toArray⟩, .string ⟨to.toArray⟩, .slice a b.length c] 36))) := (Below.refl N w).alloc hbx _
  have hle := lent_anyX N a c b (w.alloc (.cells #[.int .i64 1, .int .i64 n, .string ⟨nm.toArray⟩, .string ⟨to.toArray⟩, .slice a b.length c] 36)) (hx.below HBW.out) (by simp; omega) hbl
  have HB0 : Hid (Bth N S1 S2 w0 (w.alloc (.cells #[.int .i64 1, .int .i64 n, .string ⟨nm.toArray⟩, .string ⟨to.toArray⟩, .slice a b.length c] 36)) d B p) := hb0
  have HLT : Hid (w.heap.size < (w.alloc (.cells #[.int .i64 1, .int .i64 n, .string ⟨nm.toArray⟩, .string ⟨to.toArray⟩, .slice a b.length c] 36)).heap.size) := by show w.heap.size < (w.alloc (.cells #[.int .i64 1, .int .i64 n, .string ⟨nm.toArray⟩, .string ⟨to.toArray⟩, .slice a b.length c] 36)).heap.size; simp
  have hS1 : ¬ S1 w.heap.size := fun hs => by have := h.dsk.inn _ hs; omega
  have hS2 : ¬ S2 w.heap.size := fun hs => by have := h.rds.inn _ hs; omega
  have HCE : Hid (∀ w' : World, w'.heap[w.heap.size]? = (w.alloc (.cells #[.int .i64 1, .int .i64 n, .string ⟨nm.toArray⟩, .string ⟨to.toArray⟩, .slice a b.length c] 36)).heap[w.heap.size]? → w'.cell? ⟨w.heap.size, 2, none⟩ = some (.string ⟨nm.toArray⟩) ∧ w'.cell? ⟨w.heap.size, 4, none⟩ = some (.slice a b.length c)) := fun w' hw => by
    have hR := hw.trans (heap_alloc_new w (.cells #[.int .i64 1, .int .i64 n, .string ⟨nm.toArray⟩, .string ⟨to.toArray⟩, .slice a b.length c] 36))
    exact ⟨by simp [World.cell?, hR], by simp [World.cell?, hR]⟩
  have c4 := (HCE.out (w.alloc (.cells #[.int .i64 1, .int .i64 n, .string ⟨nm.toArray⟩, .string ⟨to.toArray⟩, .slice a b.length c] 36)) rfl).2
  clear h hb0
  go_enter Tryz.func39, Tryz.ntmps39
  go_wp2_with fail
  refine hle.mono ?_
  rintro e w2 ⟨g, cap, rfl, hO2, hB2⟩
  have HB2 : Hid (Below (w.alloc (.cells #[.int .i64 1, .int .i64 n, .string ⟨nm.toArray⟩, .string ⟨to.toArray⟩, .slice a b.length c] 36)).heap.size (w.alloc (.cells #[.int .i64 1, .int .i64 n, .string ⟨nm.toArray⟩, .string ⟨to.toArray⟩, .slice a b.length c] 36)) w2) := hB2
  have HBB2 : Hid (Bth N S1 S2 w0 w2 d B p) := HB0.out.below hB2
  have HGN : Hid ((w.alloc (.cells #[.int .i64 1, .int .i64 n, .string ⟨nm.toArray⟩, .string ⟨to.toArray⟩, .slice a b.length c] 36)).heap.size ≤ g ∧ g < w2.heap.size) := World.ownsRow.lt hO2 g rfl
  have hg1 : ¬ S1 g := fun hs => by have := HB0.out.dsk.inn _ hs; have := HGN.out.1; omega
  have hg2 : ¬ S2 g := fun hs => by have := HB0.out.rds.inn _ hs; have := HGN.out.1; omega
  have HO2 : Hid (Ow (w.alloc (.cells #[.int .i64 1, .int .i64 n, .string ⟨nm.toArray⟩, .string ⟨to.toArray⟩, .slice a b.length c] 36)).heap.size w2 (.slice (some ⟨g, 0, none⟩) (b.length + 1) cap) (b ++ [201])) := hO2
  have hsx : SlX S1 w2 (.slice (some ⟨g, 0, none⟩) b.length cap) b := by
    have e : b.length + 1 = (b ++ [(201 : UInt8)]).length := by simp
    rw [e] at hO2
    have h9 := (hO2.sl (Nat.le_refl _)).front b.length (by simp)
    have h8 : (b ++ [(201 : UInt8)]).take b.length = b := by simp
    rw [h8] at h9
    obtain ⟨a', c', e', q1, q2, q3⟩ := h9
    cases e'
    refine ⟨_, _, rfl, q1, q2, q3.imp id ?_⟩
    rintro ⟨b', off, ee, hb', hc'⟩
    cases ee
    exact ⟨g, 0, rfl, hg1, hb', hc'⟩
  have hca := code_op (X := fun p => doAppend p nm b) HBB2.out.dsk HBB2.out.sz (fun k hk hS => append_any hk nm h1 (some ⟨g, 0, none⟩) cap b hsx)
  have c2 := (HCE.out w2 (hB2.block _ HLT.out)).1
  clear hle hO2 hB2 hsx c4
  go_wp2_with fail
  refine hca.mono ?_
  rintro e w3 ⟨rfl, hT3⟩
  have HT3 : Hid (Then N S1 w2 w3 d (doAppend p nm b).2) := hT3
  have HO3 : Hid (Ow (w.alloc (.cells #[.int .i64 1, .int .i64 n, .string ⟨nm.toArray⟩, .string ⟨to.toArray⟩, .slice a b.length c] 36)).heap.size w3 (.slice (some ⟨g, 0, none⟩) (b.length + 1) cap) (b ++ [201])) := HO2.out.out hT3.out (fun g' hg' hs => by cases hg'; exact hg1 hs)
  have HBN3 : Hid (Below N w w3) := (HBW.out.trans (HB2.out.mono (by simp; omega))).trans hT3.bel
  have hka := kept_anyX (w.alloc (.cells #[.int .i64 1, .int .i64 n, .string ⟨nm.toArray⟩, .string ⟨to.toArray⟩, .slice a b.length c] 36)).heap.size N g cap a c b w3 HO3.out (HX.out w3 HBN3.out) (by have h9 := HBN3.out.size; omega) hbl
  have HE3 : Hid (w3.heap[w.heap.size]? = (w.alloc (.cells #[.int .i64 1, .int .i64 n, .string ⟨nm.toArray⟩, .string ⟨to.toArray⟩, .slice a b.length c] 36)).heap[w.heap.size]?) := (hT3.out.block _ (Nat.lt_of_lt_of_le HLT.out HB2.out.size) hS1).trans (HB2.out.block _ HLT.out)
  have c34 := (HCE.out w3 HE3.out).2
  clear hca hT3 c2
  go_wp2_with fail
  refine hka.mono ?_
  rintro e w4 ⟨rfl, hB4⟩
  have HE4 : Hid (w4.heap[w.heap.size]? = (w.alloc (.cells #[.int .i64 1, .int .i64 n, .string ⟨nm.toArray⟩, .string ⟨to.toArray⟩, .slice a b.length c] 36)).heap[w.heap.size]?) := (hB4.block _ (by have h7 := HT3.out.out.size; have h8 := HB2.out.size; have h9 := HLT.out; omega)).trans HE3.out
  have HO4 : Hid (Ow (w.alloc (.cells #[.int .i64 1, .int .i64 n, .string ⟨nm.toArray⟩, .string ⟨to.toArray⟩, .slice a b.length c] 36)).heap.size w4 (.slice (some ⟨g, 0, none⟩) (b.length + 1) cap) (b ++ [201])) := HO3.out.below hB4 (Nat.le_refl _)
  have HB34 : Hid (Below w3.heap.size w3 w4) := hB4
  have hcap : b.length ≤ cap := by
    have h9 := HO3.out
    unfold Ow at h9
    have e : (b ++ [(201 : UInt8)]).length = b.length + 1 := by simp
    rw [e] at h9
    obtain ⟨g', c', ee, hc⟩ := row_some h9 (by omega)
    cases ee
    omega
  clear hka hB4 c34
  go_wp2_with fail
  go_loopw [10] (fun iv wr => ∃ (k : Nat) (dd : List UInt8), iv = .int .i64 (k : Int) ∧ k ≤ b.length ∧ dd.length = b.length + 1 ∧ Ow (w.alloc (.cells #[.int .i64 1, .int .i64 n, .string ⟨nm.toArray⟩, .string ⟨to.toArray⟩, .slice a b.length c] 36)).heap.size wr (.slice (some ⟨g, 0, none⟩) (b.length + 1) cap) dd ∧ Out (· = g) w3 wr) (fun iv _ => b.length - (intOf iv).toNat)
  case atStart => exact ⟨0, b ++ [201], rfl, Nat.zero_le _, by simp, HO4.out, Out.of_below HB34.out⟩
  case round =>
    obtain ⟨k, dd, rfl, hk, hdl, hO, hOu⟩ := hrel
    have HO : Hid (Ow (w.alloc (.cells #[.int .i64 1, .int .i64 n, .string ⟨nm.toArray⟩, .string ⟨to.toArray⟩, .slice a b.length c] 36)).heap.size wr (.slice (some ⟨g, 0, none⟩) (b.length + 1) cap) dd) := hO
    have HDL : Hid (dd.length = b.length + 1) := hdl
    have HOU : Hid (Out (· = g) w3 wr) := hOu
    by_cases hlt : k < b.length
    · have hi0 : (0 : Int) ≤ (k : Int) := by omega
      have hi1 : (k : Int) < (b.length : Int) := by omega
      obtain ⟨⟨u, b1⟩, b2⟩ := hO.cells hdl (show k < b.length + 1 by omega)
      clear hO hdl hOu
      go_wp2
      have h9 := HO.out.poke HDL.out k 99
      exact ⟨⟨k + 1, dd.set k 99, by go_num, by omega, by rw [List.length_set]; exact HDL.out, h9.1, HOU.out.trans (Out.grown (X := (· = g)) h9.2 (fun j hj => by cases hj; rfl)) (fun i hi _ => hi)⟩, by simp [intOf]; omega⟩
    · have hge : decide ((k : Int) < (b.length : Int)) = false := by simp; omega
      have hO7 : Out (· = g) w3 wr.drew := hOu.trans (Out.of_below (X := (· = g)) (b := wr.drew) ⟨rfl, rfl, rfl, Nat.le_refl _, fun _ _ => rfl⟩) (fun i hi _ => hi)
      have HO7 : Hid (Out (· = g) w3 wr.drew) := hO7
      have hsz3 : N ≤ w3.heap.size := by have := HBN3.out.size; omega
      have hgN : N ≤ g := by have := HGN.out.1; have := HLT.out; omega
      have hr7 := (HBB2.out.rds.out HT3.out.out (fun j hj hk => HBB2.out.ap j hk hj)).out hO7 (fun i hi e => hg2 (by rw [← e]; exact hi))
      have HBN7 : Hid (Below N w wr.drew) := HBN3.out.trans (hO7.below hsz3 (fun i hi => by rw [hi]; exact hgN))
      have hsx7 : SlX S2 wr.drew (.slice a b.length c) b := (HX.out wr.drew HBN7.out).slx (by have := HBN7.out.size; omega) (fun i hi => HBB2.out.fr i hi)
      have hda := refAppend hr7 HBB2.out.good nm a c b hsx7
      have hEr : wr.heap[w.heap.size]? = (w.alloc (.cells #[.int .i64 1, .int .i64 n, .string ⟨nm.toArray⟩, .string ⟨to.toArray⟩, .slice a b.length c] 36)).heap[w.heap.size]? := (hOu.block w.heap.size (by have h7 := HT3.out.out.size; have h8 := HB2.out.size; have h9 := HLT.out; omega) (fun e => by have := HGN.out.1; have := HLT.out; omega)).trans HE3.out
      obtain ⟨d2, d4⟩ := HCE.out wr hEr
      have HEr : Hid (wr.heap[w.heap.size]? = (w.alloc (.cells #[.int .i64 1, .int .i64 n, .string ⟨nm.toArray⟩, .string ⟨to.toArray⟩, .slice a b.length c] 36)).heap[w.heap.size]?) := hEr
      have HLr : Hid (w.heap.size < wr.heap.size) := by show w.heap.size < wr.heap.size; have h7 := HT3.out.out.size; have h8 := HB2.out.size; have h9 := HLT.out; have h10 := hOu.size; omega
      clear hO hdl hOu hr7 hsx7 hO7 hEr
      go_wp2_with fail
      go_region_held3 (fun w' => w'.cell? ⟨w.heap.size, 2, none⟩ = some (.string ⟨nm.toArray⟩) ∧ w'.cell? ⟨w.heap.size, 4, none⟩ = some (.slice a b.length c)) (go_keep)
        (first
          | (go_at_call 18; refine (num_any _ _).mono ?_; rintro e wz ⟨rfl, hz⟩; subst wz)
          | (go_at_call 75; refine hda.mono ?_; rintro e w9 ⟨rfl, hO9, hR9⟩; have HB9 : Hid (∃ S3 S4, Bth N S3 S4 w0 w9 d B (doAppend p nm b).2) := ⟨_, _, HBB2.out.cxd HT3.out HO7.out (fun i hi hs => (by subst hi; rcases hs with hs | hs; exact hg1 hs; (have := HGN.out.2; omega))) (fun i hi hs => (by subst hi; exact hg2 hs)) (fun i hi => (by rw [hi]; exact hgN)) hO9 hR9 (HGD.out _ _ HT3.out.dsk)⟩; obtain ⟨f2, f4⟩ := HCE.out w9 ((hO9.block w.heap.size HLr.out hS2).trans HEr.out))
          | fail)
      all_goals (go_wp2; go_ret; exact ⟨by simp, by rw [HT.out]; exact HB9.out⟩)
end Go.Proofs.YtadajbdmlmickaaGreatDoor
namespace Go.Proofs.YtadajbdmlmickaaGreatDoor
open Go.RowKit Go.Shelf
set_option linter.unusedVariables false

theorem RDs.arm {S : Nat → Prop} {w : World} {B : Nat} {p : PD} (h : RDs S w B p) (m : Nat) : RDs S (w.setCell ⟨B, 1, none⟩ (.int .i64 (m : Int))) B { p with arm := m } := by
  obtain ⟨v, fs, l, h⟩ := h
  have h9 := h.rd.turn (p' := { p with arm := m }) (Out.set (X := (· = B)) rfl) (by simpa using heap_set h.rd.hd 1 (.int .i64 (m : Int))) rfl
  exact ⟨v, fs, l, h9, h.SB, h.Sv, h.Sf, fun i hi => by rw [size_set]; exact h.inn i hi, h.lt0⟩
theorem arm_dsk {N : Nat} {S : Nat → Prop} {w : World} {d : Nat} {p : PD} (h : Dsk N w S d p) (hN : N ≤ w.heap.size) (n : Int) (hn : n < 9223372036854775808) : Calls Tryz.prog 25 #[.pointer (some ⟨d, 0, none⟩), .int .i64 n] w fun r w' => r = .returned (.tuple #[]) ∧ Then N S w w' d { p with arm := n.toNat } := by
  obtain ⟨k, hk, rfl, hS⟩ := h
  refine (arm_any hk n hn).mono ?_
  rintro r w' ⟨rfl, hA⟩
  exact ⟨rfl, Then.of hA rfl hS hN⟩

set_option maxRecDepth 100000 in
set_option maxHeartbeats 20000000 in
theorem does_6 {N : Nat} {S1 S2 : Nat → Prop} {w0 w : World} {d B : Nat} {p : PD} (h : Bth N S1 S2 w0 w d B p) (n : Int) (nm to : List UInt8) (a : Option Addr) (c : Nat) (b : List UInt8) (h1 : nm.length ≤ maxLen) (h2 : to.length ≤ maxLen) (h3 : n < 9223372036854775808) :
    Calls Tryz.prog 39 #[.pointer (some ⟨d, 0, none⟩), .pointer (some ⟨B, 0, none⟩), .agg #[.int .i64 6, .int .i64 n, .string ⟨nm.toArray⟩, .string ⟨to.toArray⟩, .slice a b.length c]] w fun r w' => r = .returned (.bool true) ∧ ∃ S3 S4, Bth N S3 S4 w0 w' d B (toldP p ⟨6, n, nm, to, a, c, b⟩).2 := by
  have hb0 : Bth N S1 S2 w0 (w.alloc (.cells #[.int .i64 6, .int .i64 n, .string ⟨nm.toArray⟩, .string ⟨to.toArray⟩, .slice a b.length c] 36)) d B p := h.below ((Below.refl _ w).alloc (Nat.le_refl _) _)
  have HB : Hid (Bth N S1 S2 w0 (w.alloc (.cells #[.int .i64 6, .int .i64 n, .string ⟨nm.toArray⟩, .string ⟨to.toArray⟩, .slice a b.length c] 36)) d B p) := hb0
  have HT : Hid ((toldP p ⟨6, n, nm, to, a, c, b⟩).2 = { p with arm := n.toNat }) := rfl
  have hS1 : ¬ S1 w.heap.size := fun hs => by have := h.dsk.inn _ hs; omega
  have hca := arm_dsk hb0.dsk hb0.sz n h3
  have HCE : Hid (∀ w' : World, w'.heap[w.heap.size]? = (w.alloc (.cells #[.int .i64 6, .int .i64 n, .string ⟨nm.toArray⟩, .string ⟨to.toArray⟩, .slice a b.length c] 36)).heap[w.heap.size]? → w'.cell? ⟨w.heap.size, 1, none⟩ = some (.int .i64 n)) := fun w' hw => by
    have hR := hw.trans (heap_alloc_new w (.cells #[.int .i64 6, .int .i64 n, .string ⟨nm.toArray⟩, .string ⟨to.toArray⟩, .slice a b.length c] 36))
    simp [World.cell?, hR]
  have HLT : Hid (w.heap.size < (w.alloc (.cells #[.int .i64 6, .int .i64 n, .string ⟨nm.toArray⟩, .string ⟨to.toArray⟩, .slice a b.length c] 36)).heap.size) := by show w.heap.size < (w.alloc (.cells #[.int .i64 6, .int .i64 n, .string ⟨nm.toArray⟩, .string ⟨to.toArray⟩, .slice a b.length c] 36)).heap.size; simp
  have hmx : max n 0 = ((n.toNat : Nat) : Int) := by omega
  obtain ⟨m, hme⟩ : ∃ m, n.toNat = m := ⟨_, rfl⟩
  rw [hme] at hmx HT hca
  have hmb : m < 9223372036854775808 := by omega
  clear h hb0
  go_enter Tryz.func39, Tryz.ntmps39
  go_wp2_with (first
    | (go_at_call 25; refine hca.mono ?_; rintro e w5 ⟨rfl, hT5⟩; have c5 := HCE.out w5 (hT5.out.block _ HLT.out hS1); have hr5 := HB.out.rds.out hT5.out (fun j hj hk => HB.out.ap j hk hj); obtain ⟨v5, fs5, l5, hro⟩ := id hr5; obtain ⟨-, k1, -, -, -, z1, -, -⟩ := hro.rd.cells; clear hro)
    | fail)
  go_ret
  refine ⟨rfl, ?_⟩
  rw [HT.out]
  have hR6 := hr5.arm m
  have hO6 : Out S2 w5 (w5.setCell ⟨B, 1, none⟩ (.int .i64 (m : Int))) := Out.set (by obtain ⟨_, _, _, h9⟩ := hr5; exact h9.SB)
  exact ⟨_, _, HB.out.cd hT5 hO6 (hR6.mono (fun i hi => .inl hi) (fun i hi => by rw [size_set] at *; rcases hi with hi | hi; exact hr5.inn i hi; (have := hi.2; rw [size_set] at this; exact this))) ⟨HB.out.good.rise, HB.out.good.nms, HB.out.good.syn, by show m ≤ _; omega⟩⟩

set_option maxRecDepth 100000 in
set_option maxHeartbeats 20000000 in
theorem does_7 {N : Nat} {S1 S2 : Nat → Prop} {w0 w : World} {d B : Nat} {p : PD} (h : Bth N S1 S2 w0 w d B p) (n : Int) (nm to : List UInt8) (a : Option Addr) (c : Nat) (b : List UInt8) (h1 : nm.length ≤ maxLen) (h2 : to.length ≤ maxLen) (h3 : n < 9223372036854775808) :
    Calls Tryz.prog 39 #[.pointer (some ⟨d, 0, none⟩), .pointer (some ⟨B, 0, none⟩), .agg #[.int .i64 7, .int .i64 n, .string ⟨nm.toArray⟩, .string ⟨to.toArray⟩, .slice a b.length c]] w fun r w' => r = .returned (.bool true) ∧ ∃ S3 S4, Bth N S3 S4 w0 w' d B (toldP p ⟨7, n, nm, to, a, c, b⟩).2 := by
  have hb0 : Bth N S1 S2 w0 (w.alloc (.cells #[.int .i64 7, .int .i64 n, .string ⟨nm.toArray⟩, .string ⟨to.toArray⟩, .slice a b.length c] 36)) d B p := h.below ((Below.refl _ w).alloc (Nat.le_refl _) _)
  have HB : Hid (Bth N S1 S2 w0 (w.alloc (.cells #[.int .i64 7, .int .i64 n, .string ⟨nm.toArray⟩, .string ⟨to.toArray⟩, .slice a b.length c] 36)) d B p) := hb0
  have HT : Hid ((toldP p ⟨7, n, nm, to, a, c, b⟩).2 = doCrash p n) := rfl
  have hS1 : ¬ S1 w.heap.size := fun hs => by have := h.dsk.inn _ hs; omega
  have hca := crash_dsk hb0.dsk hb0.sz n
  have HCE : Hid (∀ w' : World, w'.heap[w.heap.size]? = (w.alloc (.cells #[.int .i64 7, .int .i64 n, .string ⟨nm.toArray⟩, .string ⟨to.toArray⟩, .slice a b.length c] 36)).heap[w.heap.size]? → w'.cell? ⟨w.heap.size, 1, none⟩ = some (.int .i64 n)) := fun w' hw => by
    have hR := hw.trans (heap_alloc_new w (.cells #[.int .i64 7, .int .i64 n, .string ⟨nm.toArray⟩, .string ⟨to.toArray⟩, .slice a b.length c] 36))
    simp [World.cell?, hR]
  have HLT : Hid (w.heap.size < (w.alloc (.cells #[.int .i64 7, .int .i64 n, .string ⟨nm.toArray⟩, .string ⟨to.toArray⟩, .slice a b.length c] 36)).heap.size) := by show w.heap.size < (w.alloc (.cells #[.int .i64 7, .int .i64 n, .string ⟨nm.toArray⟩, .string ⟨to.toArray⟩, .slice a b.length c] 36)).heap.size; simp
  have hn7 : n ≤ 9223372036854775807 := by omega
  clear h hb0
  go_enter Tryz.func39, Tryz.ntmps39
  go_wp2_with (first
    | (go_at_call 26; refine hca.mono ?_; rintro e w5 ⟨rfl, hT5⟩; have c5 := HCE.out w5 (hT5.out.block _ HLT.out hS1); have hda := refCrash (HB.out.rds.out hT5.out (fun j hj hk => HB.out.ap j hk hj)) HB.out.good n hn7)
    | (go_at_call 38; refine hda.mono ?_; rintro e w6 ⟨rfl, hO6, hR6⟩)
    | fail)
  go_ret
  refine ⟨rfl, ?_⟩
  rw [HT.out]
  exact ⟨_, _, HB.out.cd hT5 hO6 hR6 (by have h9 := good_told HB.out.good ⟨7, n, nm, to, a, c, b⟩ h3 (d := d) (w := w5) (N := N) (S := grew S1 (w.alloc (.cells #[.int .i64 7, .int .i64 n, .string ⟨nm.toArray⟩, .string ⟨to.toArray⟩, .slice a b.length c] 36)) w5) hT5.dsk; exact h9)⟩
end Go.Proofs.YtadajbdmlmickaaGreatDoor
namespace Go.Proofs.YtadajbdmlmickaaGreatDoor
open Go.RowKit Go.Shelf
set_option linter.unusedVariables false

/-- An operation of both disks. -/
theorem does_any {N : Nat} {S1 S2 : Nat → Prop} {w0 w : World} {d B : Nat} {p : PD} (h : Bth N S1 S2 w0 w d B p) (o : Opn) (hx : Sl N w o.x o.b) (h1 : o.nm.length ≤ maxLen) (h2 : o.to.length ≤ maxLen) (h3 : o.n < 9223372036854775808) (hbl : o.b.length ≤ 140737488351232) :
    Calls Tryz.prog 39 #[.pointer (some ⟨d, 0, none⟩), .pointer (some ⟨B, 0, none⟩), .agg #[.int .i64 o.kd, .int .i64 o.n, .string ⟨o.nm.toArray⟩, .string ⟨o.to.toArray⟩, o.x]] w fun r w' => r = .returned (.bool true) ∧ ∃ S3 S4, Bth N S3 S4 w0 w' d B (toldP p o).2 := by
  obtain ⟨kd, n, nm, to, a, c, b⟩ := o
  unfold Opn.x at hx ⊢
  simp only at hx h1 h2 h3 hbl ⊢
  by_cases k0 : kd = 0
  · subst k0; exact does_0 h n nm to a c b h1 h2 h3
  by_cases k1 : kd = 1
  · subst k1; exact does_1 h n nm to a c b h1 h2 h3 hx hbl
  by_cases k2 : kd = 2
  · subst k2; exact does_2 h n nm to a c b h1 h2 h3
  by_cases k3 : kd = 3
  · subst k3; exact does_3 h n nm to a c b h1 h2 h3
  by_cases k4 : kd = 4
  · subst k4; exact does_4 h n nm to a c b h1 h2 h3
  by_cases k5 : kd = 5
  · subst k5; exact does_5 h n nm to a c b h1 h2 h3
  by_cases k6 : kd = 6
  · subst k6; exact does_6 h n nm to a c b h1 h2 h3
  by_cases k7 : kd = 7
  · subst k7; exact does_7 h n nm to a c b h1 h2 h3
  exact does_else h kd n ⟨k0, k1, k2, k3, k4, k5, k6, k7⟩ nm to a c b h1 h2 h3
/-- No operation's bytes are too many. -/
def OpsSmall (os : List Opn) : Prop := ∀ i, i < os.length → (os.getD i nilOp).b.length ≤ 140737488351232

end Go.Proofs.YtadajbdmlmickaaGreatDoor
