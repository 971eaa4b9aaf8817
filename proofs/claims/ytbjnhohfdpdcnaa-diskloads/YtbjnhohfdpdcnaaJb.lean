/-
  Does of both disks: kind 2. Does of both disks: kind 3. Does of both disks: kind 4. Does of both disks: kind 5.
-/
import Derived.Test.YtbjnhohfdpdcnaaRf1
namespace Go.Proofs.Ytbjnhohfdpdcnaa
open Go.RowKit Go.Shelf
set_option linter.unusedVariables false

set_option maxRecDepth 100000 in
set_option maxHeartbeats 20000000 in
theorem does_2 {N : Nat} {S1 S2 : Nat → Prop} {w0 w : World} {d B : Nat} {p : PD} (h : Bth N S1 S2 w0 w d B p) (n : Int) (nm to : List UInt8) (a : Option Addr) (c : Nat) (b : List UInt8) (h1 : nm.length ≤ maxLen) (h2 : to.length ≤ maxLen) (h3 : n < 9223372036854775808) :
    Calls Try.prog 12 #[.pointer (some ⟨d, 0, none⟩), .pointer (some ⟨B, 0, none⟩), .agg #[.int .i64 2, .int .i64 n, .string ⟨nm.toArray⟩, .string ⟨to.toArray⟩, .slice a b.length c]] w fun r w' => r = .returned (.bool true) ∧ ∃ S3 S4, Bth N S3 S4 w0 w' d B (toldP p ⟨2, n, nm, to, a, c, b⟩).2 := by
  have hG := h.good
  have hb0 : Bth N S1 S2 w0 (w.alloc (.cells #[.int .i64 2, .int .i64 n, .string ⟨nm.toArray⟩, .string ⟨to.toArray⟩, .slice a b.length c] 34)).drew d B p := (h.below ((Below.refl _ w).alloc (Nat.le_refl _) _)).drew
  have HB : Hid (Bth N S1 S2 w0 (w.alloc (.cells #[.int .i64 2, .int .i64 n, .string ⟨nm.toArray⟩, .string ⟨to.toArray⟩, .slice a b.length c] 34)).drew d B p) := hb0
  have HT : Hid ((toldP p ⟨2, n, nm, to, a, c, b⟩).2 = (doSync p nm).2) := rfl
  have HGD : Hid (∀ (S : Nat → Prop) (w' : World), Dsk N w' S d (doSync p nm).2 → Good (doSync p nm).2) := fun S w' h9 => good_told hG ⟨2, n, nm, to, a, c, b⟩ h3 h9
  have hS1 : ¬ S1 w.heap.size := fun hs => by have := h.dsk.inn _ hs; omega
  have hS2 : ¬ S2 w.heap.size := fun hs => by have := h.rds.inn _ hs; omega
  have HCC : Hid (∀ w5, Dsk N w5 S1 d p → N ≤ w5.heap.size → Calls Try.prog 32 #[.pointer (some ⟨d, 0, none⟩), .string ⟨nm.toArray⟩] w5 fun r w' => r = .returned (.int .i64 ((doSync p nm).1 : Int)) ∧ Then N S1 w5 w' d (doSync p nm).2) := fun w5 hd hN => code_op (X := fun p => doSync p nm) hd hN (fun k hk hS => sync_any hk nm h1)
  have HDD : Hid (∀ w5, RDs S2 w5 B p → Calls Try.prog 35 #[.pointer (some ⟨B, 0, none⟩), .string ⟨nm.toArray⟩] w5 fun r w' => RDone S2 w5 B (doSync p nm) r w') := fun w5 hr => refSync hr hG nm
  have HCE : Hid (∀ w' : World, w'.heap[w.heap.size]? = (w.alloc (.cells #[.int .i64 2, .int .i64 n, .string ⟨nm.toArray⟩, .string ⟨to.toArray⟩, .slice a b.length c] 34)).heap[w.heap.size]? → w'.cell? ⟨w.heap.size, 2, none⟩ = some (.string ⟨nm.toArray⟩) ∧ True) := fun w' hw => by
    have hR := hw.trans (heap_alloc_new w (.cells #[.int .i64 2, .int .i64 n, .string ⟨nm.toArray⟩, .string ⟨to.toArray⟩, .slice a b.length c] 34))
    exact ⟨by simp [World.cell?, hR], trivial⟩
  have HLT : Hid (w.heap.size < (w.alloc (.cells #[.int .i64 2, .int .i64 n, .string ⟨nm.toArray⟩, .string ⟨to.toArray⟩, .slice a b.length c] 34)).drew.heap.size) := by show w.heap.size < (w.alloc (.cells #[.int .i64 2, .int .i64 n, .string ⟨nm.toArray⟩, .string ⟨to.toArray⟩, .slice a b.length c] 34)).heap.size; simp
  have hc1 := HCC.out _ hb0.dsk hb0.sz
  have hd1 := HDD.out _ hb0.rds
  clear h hb0 hG
  go_enter Try.func12, Try.ntmps12
  go_wp2_with fail
  go_region_held3 (fun w' => w'.cell? ⟨w.heap.size, 2, none⟩ = some (.string ⟨nm.toArray⟩)) (go_keep)
    (first
      | (go_at_call 18; refine (num_any _ _).mono ?_; rintro e wz ⟨rfl, hz⟩; subst wz)
      | (go_at_call 32; refine hc1.mono ?_; rintro e w5 ⟨rfl, hT5⟩; clear hd1 hc1; have hd2 := HDD.out w5 (HB.out.rds.out hT5.out (fun j hj hk => HB.out.ap j hk hj)); have HK5 : Hid (w5.heap[w.heap.size]? = (w.alloc (.cells #[.int .i64 2, .int .i64 n, .string ⟨nm.toArray⟩, .string ⟨to.toArray⟩, .slice a b.length c] 34)).heap[w.heap.size]?) := hT5.out.block _ HLT.out hS1; obtain ⟨c25, -⟩ := HCE.out w5 HK5.out)
      | (go_at_call 35; refine hd2.mono ?_; rintro e w6 ⟨rfl, hO6, hR6⟩; have HB6 : Hid (∃ S3 S4, Bth N S3 S4 w0 w6 d B (doSync p nm).2) := ⟨_, _, HB.out.cd hT5 hO6 hR6 (HGD.out _ _ hT5.dsk)⟩; obtain ⟨c26, -⟩ := HCE.out w6 ((hO6.block _ (Nat.lt_of_lt_of_le HLT.out hT5.out.size) hS2).trans HK5.out))
      | (go_at_call 35; refine hd1.mono ?_; rintro e w5 ⟨rfl, hO5, hR5⟩; clear hc1 hd1; have hc2 := HCC.out w5 (HB.out.dsk.out hO5 (fun j hj hk => HB.out.ap j hj hk)) (Nat.le_trans HB.out.sz hO5.size); have HK5 : Hid (w5.heap[w.heap.size]? = (w.alloc (.cells #[.int .i64 2, .int .i64 n, .string ⟨nm.toArray⟩, .string ⟨to.toArray⟩, .slice a b.length c] 34)).heap[w.heap.size]?) := hO5.block _ HLT.out hS2; obtain ⟨c25, -⟩ := HCE.out w5 HK5.out)
      | (go_at_call 32; refine hc2.mono ?_; rintro e w6 ⟨rfl, hT6⟩; have HB6 : Hid (∃ S3 S4, Bth N S3 S4 w0 w6 d B (doSync p nm).2) := ⟨_, _, HB.out.dc hO5 hR5 hT6 (HGD.out _ _ hT6.dsk)⟩; obtain ⟨c26, -⟩ := HCE.out w6 ((hT6.out.block _ (Nat.lt_of_lt_of_le HLT.out hO5.size) hS1).trans HK5.out))
      | fail)
  all_goals (go_wp2; go_ret; exact ⟨by simp, by rw [HT.out]; exact HB6.out⟩)
end Go.Proofs.Ytbjnhohfdpdcnaa
namespace Go.Proofs.Ytbjnhohfdpdcnaa
open Go.RowKit Go.Shelf
set_option linter.unusedVariables false

set_option maxRecDepth 100000 in
set_option maxHeartbeats 20000000 in
theorem does_3 {N : Nat} {S1 S2 : Nat → Prop} {w0 w : World} {d B : Nat} {p : PD} (h : Bth N S1 S2 w0 w d B p) (n : Int) (nm to : List UInt8) (a : Option Addr) (c : Nat) (b : List UInt8) (h1 : nm.length ≤ maxLen) (h2 : to.length ≤ maxLen) (h3 : n < 9223372036854775808) :
    Calls Try.prog 12 #[.pointer (some ⟨d, 0, none⟩), .pointer (some ⟨B, 0, none⟩), .agg #[.int .i64 3, .int .i64 n, .string ⟨nm.toArray⟩, .string ⟨to.toArray⟩, .slice a b.length c]] w fun r w' => r = .returned (.bool true) ∧ ∃ S3 S4, Bth N S3 S4 w0 w' d B (toldP p ⟨3, n, nm, to, a, c, b⟩).2 := by
  have hG := h.good
  have hb0 : Bth N S1 S2 w0 (w.alloc (.cells #[.int .i64 3, .int .i64 n, .string ⟨nm.toArray⟩, .string ⟨to.toArray⟩, .slice a b.length c] 34)).drew d B p := (h.below ((Below.refl _ w).alloc (Nat.le_refl _) _)).drew
  have HB : Hid (Bth N S1 S2 w0 (w.alloc (.cells #[.int .i64 3, .int .i64 n, .string ⟨nm.toArray⟩, .string ⟨to.toArray⟩, .slice a b.length c] 34)).drew d B p) := hb0
  have HT : Hid ((toldP p ⟨3, n, nm, to, a, c, b⟩).2 = (doCut p nm n).2) := rfl
  have HGD : Hid (∀ (S : Nat → Prop) (w' : World), Dsk N w' S d (doCut p nm n).2 → Good (doCut p nm n).2) := fun S w' h9 => good_told hG ⟨3, n, nm, to, a, c, b⟩ h3 h9
  have hS1 : ¬ S1 w.heap.size := fun hs => by have := h.dsk.inn _ hs; omega
  have hS2 : ¬ S2 w.heap.size := fun hs => by have := h.rds.inn _ hs; omega
  have HCC : Hid (∀ w5, Dsk N w5 S1 d p → N ≤ w5.heap.size → Calls Try.prog 36 #[.pointer (some ⟨d, 0, none⟩), .string ⟨nm.toArray⟩, .int .i64 n] w5 fun r w' => r = .returned (.int .i64 ((doCut p nm n).1 : Int)) ∧ Then N S1 w5 w' d (doCut p nm n).2) := fun w5 hd hN => code_op (X := fun p => doCut p nm n) hd hN (fun k hk hS => cut_any hk nm h1 n)
  have HDD : Hid (∀ w5, RDs S2 w5 B p → Calls Try.prog 37 #[.pointer (some ⟨B, 0, none⟩), .string ⟨nm.toArray⟩, .int .i64 n] w5 fun r w' => RDone S2 w5 B (doCut p nm n) r w') := fun w5 hr => refCut hr hG nm n (by omega)
  have HCE : Hid (∀ w' : World, w'.heap[w.heap.size]? = (w.alloc (.cells #[.int .i64 3, .int .i64 n, .string ⟨nm.toArray⟩, .string ⟨to.toArray⟩, .slice a b.length c] 34)).heap[w.heap.size]? → w'.cell? ⟨w.heap.size, 2, none⟩ = some (.string ⟨nm.toArray⟩) ∧ w'.cell? ⟨w.heap.size, 1, none⟩ = some (.int .i64 n) ∧ True) := fun w' hw => by
    have hR := hw.trans (heap_alloc_new w (.cells #[.int .i64 3, .int .i64 n, .string ⟨nm.toArray⟩, .string ⟨to.toArray⟩, .slice a b.length c] 34))
    exact ⟨by simp [World.cell?, hR], by simp [World.cell?, hR], trivial⟩
  have HLT : Hid (w.heap.size < (w.alloc (.cells #[.int .i64 3, .int .i64 n, .string ⟨nm.toArray⟩, .string ⟨to.toArray⟩, .slice a b.length c] 34)).drew.heap.size) := by show w.heap.size < (w.alloc (.cells #[.int .i64 3, .int .i64 n, .string ⟨nm.toArray⟩, .string ⟨to.toArray⟩, .slice a b.length c] 34)).heap.size; simp
  have hc1 := HCC.out _ hb0.dsk hb0.sz
  have hd1 := HDD.out _ hb0.rds
  clear h hb0 hG
  go_enter Try.func12, Try.ntmps12
  go_wp2_with fail
  go_region_held3 (fun w' => w'.cell? ⟨w.heap.size, 2, none⟩ = some (.string ⟨nm.toArray⟩) ∧ w'.cell? ⟨w.heap.size, 1, none⟩ = some (.int .i64 n)) (go_keep)
    (first
      | (go_at_call 18; refine (num_any _ _).mono ?_; rintro e wz ⟨rfl, hz⟩; subst wz)
      | (go_at_call 36; refine hc1.mono ?_; rintro e w5 ⟨rfl, hT5⟩; clear hd1 hc1; have hd2 := HDD.out w5 (HB.out.rds.out hT5.out (fun j hj hk => HB.out.ap j hk hj)); have HK5 : Hid (w5.heap[w.heap.size]? = (w.alloc (.cells #[.int .i64 3, .int .i64 n, .string ⟨nm.toArray⟩, .string ⟨to.toArray⟩, .slice a b.length c] 34)).heap[w.heap.size]?) := hT5.out.block _ HLT.out hS1; obtain ⟨c25, c15, -⟩ := HCE.out w5 HK5.out)
      | (go_at_call 37; refine hd2.mono ?_; rintro e w6 ⟨rfl, hO6, hR6⟩; have HB6 : Hid (∃ S3 S4, Bth N S3 S4 w0 w6 d B (doCut p nm n).2) := ⟨_, _, HB.out.cd hT5 hO6 hR6 (HGD.out _ _ hT5.dsk)⟩; obtain ⟨c26, c16, -⟩ := HCE.out w6 ((hO6.block _ (Nat.lt_of_lt_of_le HLT.out hT5.out.size) hS2).trans HK5.out))
      | (go_at_call 37; refine hd1.mono ?_; rintro e w5 ⟨rfl, hO5, hR5⟩; clear hc1 hd1; have hc2 := HCC.out w5 (HB.out.dsk.out hO5 (fun j hj hk => HB.out.ap j hj hk)) (Nat.le_trans HB.out.sz hO5.size); have HK5 : Hid (w5.heap[w.heap.size]? = (w.alloc (.cells #[.int .i64 3, .int .i64 n, .string ⟨nm.toArray⟩, .string ⟨to.toArray⟩, .slice a b.length c] 34)).heap[w.heap.size]?) := hO5.block _ HLT.out hS2; obtain ⟨c25, c15, -⟩ := HCE.out w5 HK5.out)
      | (go_at_call 36; refine hc2.mono ?_; rintro e w6 ⟨rfl, hT6⟩; have HB6 : Hid (∃ S3 S4, Bth N S3 S4 w0 w6 d B (doCut p nm n).2) := ⟨_, _, HB.out.dc hO5 hR5 hT6 (HGD.out _ _ hT6.dsk)⟩; obtain ⟨c26, c16, -⟩ := HCE.out w6 ((hT6.out.block _ (Nat.lt_of_lt_of_le HLT.out hO5.size) hS1).trans HK5.out))
      | fail)
  all_goals (go_wp2; go_ret; exact ⟨by simp, by rw [HT.out]; exact HB6.out⟩)
end Go.Proofs.Ytbjnhohfdpdcnaa
namespace Go.Proofs.Ytbjnhohfdpdcnaa
open Go.RowKit Go.Shelf
set_option linter.unusedVariables false

set_option maxRecDepth 100000 in
set_option maxHeartbeats 20000000 in
theorem does_4 {N : Nat} {S1 S2 : Nat → Prop} {w0 w : World} {d B : Nat} {p : PD} (h : Bth N S1 S2 w0 w d B p) (n : Int) (nm to : List UInt8) (a : Option Addr) (c : Nat) (b : List UInt8) (h1 : nm.length ≤ maxLen) (h2 : to.length ≤ maxLen) (h3 : n < 9223372036854775808) :
    Calls Try.prog 12 #[.pointer (some ⟨d, 0, none⟩), .pointer (some ⟨B, 0, none⟩), .agg #[.int .i64 4, .int .i64 n, .string ⟨nm.toArray⟩, .string ⟨to.toArray⟩, .slice a b.length c]] w fun r w' => r = .returned (.bool true) ∧ ∃ S3 S4, Bth N S3 S4 w0 w' d B (toldP p ⟨4, n, nm, to, a, c, b⟩).2 := by
  have hG := h.good
  have hb0 : Bth N S1 S2 w0 (w.alloc (.cells #[.int .i64 4, .int .i64 n, .string ⟨nm.toArray⟩, .string ⟨to.toArray⟩, .slice a b.length c] 34)).drew d B p := (h.below ((Below.refl _ w).alloc (Nat.le_refl _) _)).drew
  have HB : Hid (Bth N S1 S2 w0 (w.alloc (.cells #[.int .i64 4, .int .i64 n, .string ⟨nm.toArray⟩, .string ⟨to.toArray⟩, .slice a b.length c] 34)).drew d B p) := hb0
  have HT : Hid ((toldP p ⟨4, n, nm, to, a, c, b⟩).2 = (doRename p nm to).2) := rfl
  have HGD : Hid (∀ (S : Nat → Prop) (w' : World), Dsk N w' S d (doRename p nm to).2 → Good (doRename p nm to).2) := fun S w' h9 => good_told hG ⟨4, n, nm, to, a, c, b⟩ h3 h9
  have hS1 : ¬ S1 w.heap.size := fun hs => by have := h.dsk.inn _ hs; omega
  have hS2 : ¬ S2 w.heap.size := fun hs => by have := h.rds.inn _ hs; omega
  have HCC : Hid (∀ w5, Dsk N w5 S1 d p → N ≤ w5.heap.size → Calls Try.prog 38 #[.pointer (some ⟨d, 0, none⟩), .string ⟨nm.toArray⟩, .string ⟨to.toArray⟩] w5 fun r w' => r = .returned (.int .i64 ((doRename p nm to).1 : Int)) ∧ Then N S1 w5 w' d (doRename p nm to).2) := fun w5 hd hN => code_op (X := fun p => doRename p nm to) hd hN (fun k hk hS => rename_any hk nm to h1 h2)
  have HDD : Hid (∀ w5, RDs S2 w5 B p → Calls Try.prog 39 #[.pointer (some ⟨B, 0, none⟩), .string ⟨nm.toArray⟩, .string ⟨to.toArray⟩] w5 fun r w' => RDone S2 w5 B (doRename p nm to) r w') := fun w5 hr => refRename hr hG nm to h2
  have HCE : Hid (∀ w' : World, w'.heap[w.heap.size]? = (w.alloc (.cells #[.int .i64 4, .int .i64 n, .string ⟨nm.toArray⟩, .string ⟨to.toArray⟩, .slice a b.length c] 34)).heap[w.heap.size]? → w'.cell? ⟨w.heap.size, 2, none⟩ = some (.string ⟨nm.toArray⟩) ∧ w'.cell? ⟨w.heap.size, 3, none⟩ = some (.string ⟨to.toArray⟩) ∧ True) := fun w' hw => by
    have hR := hw.trans (heap_alloc_new w (.cells #[.int .i64 4, .int .i64 n, .string ⟨nm.toArray⟩, .string ⟨to.toArray⟩, .slice a b.length c] 34))
    exact ⟨by simp [World.cell?, hR], by simp [World.cell?, hR], trivial⟩
  have HLT : Hid (w.heap.size < (w.alloc (.cells #[.int .i64 4, .int .i64 n, .string ⟨nm.toArray⟩, .string ⟨to.toArray⟩, .slice a b.length c] 34)).drew.heap.size) := by show w.heap.size < (w.alloc (.cells #[.int .i64 4, .int .i64 n, .string ⟨nm.toArray⟩, .string ⟨to.toArray⟩, .slice a b.length c] 34)).heap.size; simp
  have hc1 := HCC.out _ hb0.dsk hb0.sz
  have hd1 := HDD.out _ hb0.rds
  clear h hb0 hG
  go_enter Try.func12, Try.ntmps12
  go_wp2_with fail
  go_region_held3 (fun w' => w'.cell? ⟨w.heap.size, 2, none⟩ = some (.string ⟨nm.toArray⟩) ∧ w'.cell? ⟨w.heap.size, 3, none⟩ = some (.string ⟨to.toArray⟩)) (go_keep)
    (first
      | (go_at_call 18; refine (num_any _ _).mono ?_; rintro e wz ⟨rfl, hz⟩; subst wz)
      | (go_at_call 38; refine hc1.mono ?_; rintro e w5 ⟨rfl, hT5⟩; clear hd1 hc1; have hd2 := HDD.out w5 (HB.out.rds.out hT5.out (fun j hj hk => HB.out.ap j hk hj)); have HK5 : Hid (w5.heap[w.heap.size]? = (w.alloc (.cells #[.int .i64 4, .int .i64 n, .string ⟨nm.toArray⟩, .string ⟨to.toArray⟩, .slice a b.length c] 34)).heap[w.heap.size]?) := hT5.out.block _ HLT.out hS1; obtain ⟨c25, c35, -⟩ := HCE.out w5 HK5.out)
      | (go_at_call 39; refine hd2.mono ?_; rintro e w6 ⟨rfl, hO6, hR6⟩; have HB6 : Hid (∃ S3 S4, Bth N S3 S4 w0 w6 d B (doRename p nm to).2) := ⟨_, _, HB.out.cd hT5 hO6 hR6 (HGD.out _ _ hT5.dsk)⟩; obtain ⟨c26, c36, -⟩ := HCE.out w6 ((hO6.block _ (Nat.lt_of_lt_of_le HLT.out hT5.out.size) hS2).trans HK5.out))
      | (go_at_call 39; refine hd1.mono ?_; rintro e w5 ⟨rfl, hO5, hR5⟩; clear hc1 hd1; have hc2 := HCC.out w5 (HB.out.dsk.out hO5 (fun j hj hk => HB.out.ap j hj hk)) (Nat.le_trans HB.out.sz hO5.size); have HK5 : Hid (w5.heap[w.heap.size]? = (w.alloc (.cells #[.int .i64 4, .int .i64 n, .string ⟨nm.toArray⟩, .string ⟨to.toArray⟩, .slice a b.length c] 34)).heap[w.heap.size]?) := hO5.block _ HLT.out hS2; obtain ⟨c25, c35, -⟩ := HCE.out w5 HK5.out)
      | (go_at_call 38; refine hc2.mono ?_; rintro e w6 ⟨rfl, hT6⟩; have HB6 : Hid (∃ S3 S4, Bth N S3 S4 w0 w6 d B (doRename p nm to).2) := ⟨_, _, HB.out.dc hO5 hR5 hT6 (HGD.out _ _ hT6.dsk)⟩; obtain ⟨c26, c36, -⟩ := HCE.out w6 ((hT6.out.block _ (Nat.lt_of_lt_of_le HLT.out hO5.size) hS1).trans HK5.out))
      | fail)
  all_goals (go_wp2; go_ret; exact ⟨by simp, by rw [HT.out]; exact HB6.out⟩)
end Go.Proofs.Ytbjnhohfdpdcnaa
namespace Go.Proofs.Ytbjnhohfdpdcnaa
open Go.RowKit Go.Shelf
set_option linter.unusedVariables false

set_option maxRecDepth 100000 in
set_option maxHeartbeats 20000000 in
theorem does_5 {N : Nat} {S1 S2 : Nat → Prop} {w0 w : World} {d B : Nat} {p : PD} (h : Bth N S1 S2 w0 w d B p) (n : Int) (nm to : List UInt8) (a : Option Addr) (c : Nat) (b : List UInt8) (h1 : nm.length ≤ maxLen) (h2 : to.length ≤ maxLen) (h3 : n < 9223372036854775808) :
    Calls Try.prog 12 #[.pointer (some ⟨d, 0, none⟩), .pointer (some ⟨B, 0, none⟩), .agg #[.int .i64 5, .int .i64 n, .string ⟨nm.toArray⟩, .string ⟨to.toArray⟩, .slice a b.length c]] w fun r w' => r = .returned (.bool true) ∧ ∃ S3 S4, Bth N S3 S4 w0 w' d B (toldP p ⟨5, n, nm, to, a, c, b⟩).2 := by
  have hG := h.good
  have hb0 : Bth N S1 S2 w0 (w.alloc (.cells #[.int .i64 5, .int .i64 n, .string ⟨nm.toArray⟩, .string ⟨to.toArray⟩, .slice a b.length c] 34)).drew d B p := (h.below ((Below.refl _ w).alloc (Nat.le_refl _) _)).drew
  have HB : Hid (Bth N S1 S2 w0 (w.alloc (.cells #[.int .i64 5, .int .i64 n, .string ⟨nm.toArray⟩, .string ⟨to.toArray⟩, .slice a b.length c] 34)).drew d B p) := hb0
  have HT : Hid ((toldP p ⟨5, n, nm, to, a, c, b⟩).2 = (doRemove p nm).2) := rfl
  have HGD : Hid (∀ (S : Nat → Prop) (w' : World), Dsk N w' S d (doRemove p nm).2 → Good (doRemove p nm).2) := fun S w' h9 => good_told hG ⟨5, n, nm, to, a, c, b⟩ h3 h9
  have hS1 : ¬ S1 w.heap.size := fun hs => by have := h.dsk.inn _ hs; omega
  have hS2 : ¬ S2 w.heap.size := fun hs => by have := h.rds.inn _ hs; omega
  have HCC : Hid (∀ w5, Dsk N w5 S1 d p → N ≤ w5.heap.size → Calls Try.prog 40 #[.pointer (some ⟨d, 0, none⟩), .string ⟨nm.toArray⟩] w5 fun r w' => r = .returned (.int .i64 ((doRemove p nm).1 : Int)) ∧ Then N S1 w5 w' d (doRemove p nm).2) := fun w5 hd hN => code_op (X := fun p => doRemove p nm) hd hN (fun k hk hS => remove_any hk nm h1)
  have HDD : Hid (∀ w5, RDs S2 w5 B p → Calls Try.prog 41 #[.pointer (some ⟨B, 0, none⟩), .string ⟨nm.toArray⟩] w5 fun r w' => RDone S2 w5 B (doRemove p nm) r w') := fun w5 hr => refRemove hr hG nm
  have HCE : Hid (∀ w' : World, w'.heap[w.heap.size]? = (w.alloc (.cells #[.int .i64 5, .int .i64 n, .string ⟨nm.toArray⟩, .string ⟨to.toArray⟩, .slice a b.length c] 34)).heap[w.heap.size]? → w'.cell? ⟨w.heap.size, 2, none⟩ = some (.string ⟨nm.toArray⟩) ∧ True) := fun w' hw => by
    have hR := hw.trans (heap_alloc_new w (.cells #[.int .i64 5, .int .i64 n, .string ⟨nm.toArray⟩, .string ⟨to.toArray⟩, .slice a b.length c] 34))
    exact ⟨by simp [World.cell?, hR], trivial⟩
  have HLT : Hid (w.heap.size < (w.alloc (.cells #[.int .i64 5, .int .i64 n, .string ⟨nm.toArray⟩, .string ⟨to.toArray⟩, .slice a b.length c] 34)).drew.heap.size) := by show w.heap.size < (w.alloc (.cells #[.int .i64 5, .int .i64 n, .string ⟨nm.toArray⟩, .string ⟨to.toArray⟩, .slice a b.length c] 34)).heap.size; simp
  have hc1 := HCC.out _ hb0.dsk hb0.sz
  have hd1 := HDD.out _ hb0.rds
  clear h hb0 hG
  go_enter Try.func12, Try.ntmps12
  go_wp2_with fail
  go_region_held3 (fun w' => w'.cell? ⟨w.heap.size, 2, none⟩ = some (.string ⟨nm.toArray⟩)) (go_keep)
    (first
      | (go_at_call 18; refine (num_any _ _).mono ?_; rintro e wz ⟨rfl, hz⟩; subst wz)
      | (go_at_call 40; refine hc1.mono ?_; rintro e w5 ⟨rfl, hT5⟩; clear hd1 hc1; have hd2 := HDD.out w5 (HB.out.rds.out hT5.out (fun j hj hk => HB.out.ap j hk hj)); have HK5 : Hid (w5.heap[w.heap.size]? = (w.alloc (.cells #[.int .i64 5, .int .i64 n, .string ⟨nm.toArray⟩, .string ⟨to.toArray⟩, .slice a b.length c] 34)).heap[w.heap.size]?) := hT5.out.block _ HLT.out hS1; obtain ⟨c25, -⟩ := HCE.out w5 HK5.out)
      | (go_at_call 41; refine hd2.mono ?_; rintro e w6 ⟨rfl, hO6, hR6⟩; have HB6 : Hid (∃ S3 S4, Bth N S3 S4 w0 w6 d B (doRemove p nm).2) := ⟨_, _, HB.out.cd hT5 hO6 hR6 (HGD.out _ _ hT5.dsk)⟩; obtain ⟨c26, -⟩ := HCE.out w6 ((hO6.block _ (Nat.lt_of_lt_of_le HLT.out hT5.out.size) hS2).trans HK5.out))
      | (go_at_call 41; refine hd1.mono ?_; rintro e w5 ⟨rfl, hO5, hR5⟩; clear hc1 hd1; have hc2 := HCC.out w5 (HB.out.dsk.out hO5 (fun j hj hk => HB.out.ap j hj hk)) (Nat.le_trans HB.out.sz hO5.size); have HK5 : Hid (w5.heap[w.heap.size]? = (w.alloc (.cells #[.int .i64 5, .int .i64 n, .string ⟨nm.toArray⟩, .string ⟨to.toArray⟩, .slice a b.length c] 34)).heap[w.heap.size]?) := hO5.block _ HLT.out hS2; obtain ⟨c25, -⟩ := HCE.out w5 HK5.out)
      | (go_at_call 40; refine hc2.mono ?_; rintro e w6 ⟨rfl, hT6⟩; have HB6 : Hid (∃ S3 S4, Bth N S3 S4 w0 w6 d B (doRemove p nm).2) := ⟨_, _, HB.out.dc hO5 hR5 hT6 (HGD.out _ _ hT6.dsk)⟩; obtain ⟨c26, -⟩ := HCE.out w6 ((hT6.out.block _ (Nat.lt_of_lt_of_le HLT.out hO5.size) hS1).trans HK5.out))
      | fail)
  all_goals (go_wp2; go_ret; exact ⟨by simp, by rw [HT.out]; exact HB6.out⟩)
end Go.Proofs.Ytbjnhohfdpdcnaa
