/-
  Does of both disks: kinds 6 and 7.
-/
import Derived.Test.YtbjnhohfdpdcnaaFul
namespace Go.Proofs.Ytbjnhohfdpdcnaa
open Go.RowKit Go.Shelf
set_option linter.unusedVariables false

theorem RDs.arm {S : Nat → Prop} {w : World} {B : Nat} {p : PD} (h : RDs S w B p) (m : Nat) : RDs S (w.setCell ⟨B, 1, none⟩ (.int .i64 (m : Int))) B { p with arm := m } := by
  obtain ⟨v, fs, l, h⟩ := h
  have h9 := h.rd.turn (p' := { p with arm := m }) (Out.set (X := (· = B)) rfl) (by simpa using heap_set h.rd.hd 1 (.int .i64 (m : Int))) rfl
  exact ⟨v, fs, l, h9, h.SB, h.Sv, h.Sf, fun i hi => by rw [size_set]; exact h.inn i hi, h.lt0⟩
theorem arm_dsk {N : Nat} {S : Nat → Prop} {w : World} {d : Nat} {p : PD} (h : Dsk N w S d p) (hN : N ≤ w.heap.size) (n : Int) (hn : n < 9223372036854775808) : Calls Try.prog 42 #[.pointer (some ⟨d, 0, none⟩), .int .i64 n] w fun r w' => r = .returned (.tuple #[]) ∧ Then N S w w' d { p with arm := n.toNat } := by
  obtain ⟨k, hk, rfl, hS⟩ := h
  refine (arm_any hk n hn).mono ?_
  rintro r w' ⟨rfl, hA⟩
  exact ⟨rfl, Then.of hA rfl hS hN⟩

set_option maxRecDepth 100000 in
set_option maxHeartbeats 20000000 in
theorem does_6 {N : Nat} {S1 S2 : Nat → Prop} {w0 w : World} {d B : Nat} {p : PD} (h : Bth N S1 S2 w0 w d B p) (n : Int) (nm to : List UInt8) (a : Option Addr) (c : Nat) (b : List UInt8) (h1 : nm.length ≤ maxLen) (h2 : to.length ≤ maxLen) (h3 : n < 9223372036854775808) :
    Calls Try.prog 12 #[.pointer (some ⟨d, 0, none⟩), .pointer (some ⟨B, 0, none⟩), .agg #[.int .i64 6, .int .i64 n, .string ⟨nm.toArray⟩, .string ⟨to.toArray⟩, .slice a b.length c]] w fun r w' => r = .returned (.bool true) ∧ ∃ S3 S4, Bth N S3 S4 w0 w' d B (toldP p ⟨6, n, nm, to, a, c, b⟩).2 := by
  have hb0 : Bth N S1 S2 w0 (w.alloc (.cells #[.int .i64 6, .int .i64 n, .string ⟨nm.toArray⟩, .string ⟨to.toArray⟩, .slice a b.length c] 34)) d B p := h.below ((Below.refl _ w).alloc (Nat.le_refl _) _)
  have HB : Hid (Bth N S1 S2 w0 (w.alloc (.cells #[.int .i64 6, .int .i64 n, .string ⟨nm.toArray⟩, .string ⟨to.toArray⟩, .slice a b.length c] 34)) d B p) := hb0
  have HT : Hid ((toldP p ⟨6, n, nm, to, a, c, b⟩).2 = { p with arm := n.toNat }) := rfl
  have hS1 : ¬ S1 w.heap.size := fun hs => by have := h.dsk.inn _ hs; omega
  have hca := arm_dsk hb0.dsk hb0.sz n h3
  have HCE : Hid (∀ w' : World, w'.heap[w.heap.size]? = (w.alloc (.cells #[.int .i64 6, .int .i64 n, .string ⟨nm.toArray⟩, .string ⟨to.toArray⟩, .slice a b.length c] 34)).heap[w.heap.size]? → w'.cell? ⟨w.heap.size, 1, none⟩ = some (.int .i64 n)) := fun w' hw => by
    have hR := hw.trans (heap_alloc_new w (.cells #[.int .i64 6, .int .i64 n, .string ⟨nm.toArray⟩, .string ⟨to.toArray⟩, .slice a b.length c] 34))
    simp [World.cell?, hR]
  have HLT : Hid (w.heap.size < (w.alloc (.cells #[.int .i64 6, .int .i64 n, .string ⟨nm.toArray⟩, .string ⟨to.toArray⟩, .slice a b.length c] 34)).heap.size) := by show w.heap.size < (w.alloc (.cells #[.int .i64 6, .int .i64 n, .string ⟨nm.toArray⟩, .string ⟨to.toArray⟩, .slice a b.length c] 34)).heap.size; simp
  have hmx : max n 0 = ((n.toNat : Nat) : Int) := by omega
  obtain ⟨m, hme⟩ : ∃ m, n.toNat = m := ⟨_, rfl⟩
  rw [hme] at hmx HT hca
  have hmb : m < 9223372036854775808 := by omega
  clear h hb0
  go_enter Try.func12, Try.ntmps12
  go_wp2_with (first
    | (go_at_call 42; refine hca.mono ?_; rintro e w5 ⟨rfl, hT5⟩; have c5 := HCE.out w5 (hT5.out.block _ HLT.out hS1); have hr5 := HB.out.rds.out hT5.out (fun j hj hk => HB.out.ap j hk hj); obtain ⟨v5, fs5, l5, hro⟩ := id hr5; obtain ⟨-, k1, -, -, -, z1, -, -⟩ := hro.rd.cells; clear hro)
    | fail)
  go_ret
  refine ⟨rfl, ?_⟩
  rw [HT.out]
  have hR6 := hr5.arm m
  have hO6 : Out S2 w5 (w5.setCell ⟨B, 1, none⟩ (.int .i64 (m : Int))) := Out.set (by obtain ⟨_, _, _, h9⟩ := hr5; exact h9.SB)
  exact ⟨_, _, HB.out.cd hT5 hO6 (hR6.mono (fun i hi => .inl hi) (fun i hi => by rw [size_set] at *; rcases hi with hi | hi; exact hr5.inn i hi; (have := hi.2; rw [size_set] at this; exact this))) ⟨HB.out.good.rise, HB.out.good.nms, HB.out.good.syn, by show m ≤ _; omega⟩⟩

set_option maxRecDepth 100000 in
set_option maxHeartbeats 20000000 in
theorem does_7 {N : Nat} {S1 S2 : Nat → Prop} {w0 w : World} {d B : Nat} {p : PD} (h : Bth N S1 S2 w0 w d B p) (n : Int) (nm to : List UInt8) (a : Option Addr) (c : Nat) (b : List UInt8) (h1 : nm.length ≤ maxLen) (h2 : to.length ≤ maxLen) (h3 : n < 9223372036854775808) :
    Calls Try.prog 12 #[.pointer (some ⟨d, 0, none⟩), .pointer (some ⟨B, 0, none⟩), .agg #[.int .i64 7, .int .i64 n, .string ⟨nm.toArray⟩, .string ⟨to.toArray⟩, .slice a b.length c]] w fun r w' => r = .returned (.bool true) ∧ ∃ S3 S4, Bth N S3 S4 w0 w' d B (toldP p ⟨7, n, nm, to, a, c, b⟩).2 := by
  have hb0 : Bth N S1 S2 w0 (w.alloc (.cells #[.int .i64 7, .int .i64 n, .string ⟨nm.toArray⟩, .string ⟨to.toArray⟩, .slice a b.length c] 34)) d B p := h.below ((Below.refl _ w).alloc (Nat.le_refl _) _)
  have HB : Hid (Bth N S1 S2 w0 (w.alloc (.cells #[.int .i64 7, .int .i64 n, .string ⟨nm.toArray⟩, .string ⟨to.toArray⟩, .slice a b.length c] 34)) d B p) := hb0
  have HT : Hid ((toldP p ⟨7, n, nm, to, a, c, b⟩).2 = doCrash p n) := rfl
  have hS1 : ¬ S1 w.heap.size := fun hs => by have := h.dsk.inn _ hs; omega
  have hca := crash_dsk hb0.dsk hb0.sz n
  have HCE : Hid (∀ w' : World, w'.heap[w.heap.size]? = (w.alloc (.cells #[.int .i64 7, .int .i64 n, .string ⟨nm.toArray⟩, .string ⟨to.toArray⟩, .slice a b.length c] 34)).heap[w.heap.size]? → w'.cell? ⟨w.heap.size, 1, none⟩ = some (.int .i64 n)) := fun w' hw => by
    have hR := hw.trans (heap_alloc_new w (.cells #[.int .i64 7, .int .i64 n, .string ⟨nm.toArray⟩, .string ⟨to.toArray⟩, .slice a b.length c] 34))
    simp [World.cell?, hR]
  have HLT : Hid (w.heap.size < (w.alloc (.cells #[.int .i64 7, .int .i64 n, .string ⟨nm.toArray⟩, .string ⟨to.toArray⟩, .slice a b.length c] 34)).heap.size) := by show w.heap.size < (w.alloc (.cells #[.int .i64 7, .int .i64 n, .string ⟨nm.toArray⟩, .string ⟨to.toArray⟩, .slice a b.length c] 34)).heap.size; simp
  have hn7 : n ≤ 9223372036854775807 := by omega
  clear h hb0
  go_enter Try.func12, Try.ntmps12
  go_wp2_with (first
    | (go_at_call 28; refine hca.mono ?_; rintro e w5 ⟨rfl, hT5⟩; have c5 := HCE.out w5 (hT5.out.block _ HLT.out hS1); have hda := refCrash (HB.out.rds.out hT5.out (fun j hj hk => HB.out.ap j hk hj)) HB.out.good n hn7)
    | (go_at_call 43; refine hda.mono ?_; rintro e w6 ⟨rfl, hO6, hR6⟩)
    | fail)
  go_ret
  refine ⟨rfl, ?_⟩
  rw [HT.out]
  exact ⟨_, _, HB.out.cd hT5 hO6 hR6 (by have h9 := good_told HB.out.good ⟨7, n, nm, to, a, c, b⟩ h3 (d := d) (w := w5) (N := N) (S := grew S1 (w.alloc (.cells #[.int .i64 7, .int .i64 n, .string ⟨nm.toArray⟩, .string ⟨to.toArray⟩, .slice a b.length c] 34)) w5) hT5.dsk; exact h9)⟩
end Go.Proofs.Ytbjnhohfdpdcnaa
