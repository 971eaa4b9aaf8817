/-
  Snapshots that came in; a disk beside boxes, one operation more.
-/
import Derived.Test.YtadajbdmlmickaaGreatDoorFi
import Derived.Test.YtadajbdmlmickaaGreatDoorPb
import Derived.Test.YtadajbdmlmickaaGreatDoorJCc
namespace Go.Proofs.YtadajbdmlmickaaGreatDoor
open Go.RowKit
set_option linter.unusedVariables false

/-- A snapshot that came in. -/
structure Snp where
  i : Int
  t : Int
  a : Option Addr
  c : Nat
  d : List UInt8
def nilSnp : Snp := ⟨0, 0, none, 0, []⟩
def SnpAt (N : Nat) (W : World) (b o : Nat) (x : Snp) : Prop :=
  (W.cell? ⟨b, o, none⟩ = some (.int .i64 x.i) ∧ W.cell? ⟨b, o + 1, none⟩ = some (.int .i64 x.t) ∧ W.cell? ⟨b, o + 2, none⟩ = some (.slice x.a x.d.length x.c)) ∧ Sl N W (.slice x.a x.d.length x.c) x.d
def SnpsAt (N : Nat) (W : World) (a : Option Addr) (l : List Snp) : Prop :=
  l = [] ∨ ∃ b off, a = some ⟨b, off, none⟩ ∧ b < N ∧ ∀ i, i < l.length → SnpAt N W b (off + i * 3) (l.getD i nilSnp)
theorem SnpAt.below {N : Nat} {W W' : World} {b o : Nat} {x : Snp} (h : SnpAt N W b o x) (hb : b < N) (hB : Below N W W') : SnpAt N W' b o x :=
  ⟨⟨(hB.cell (p := ⟨b, o, none⟩) hb).trans h.1.1, (hB.cell (p := ⟨b, o + 1, none⟩) hb).trans h.1.2.1, (hB.cell (p := ⟨b, o + 2, none⟩) hb).trans h.1.2.2⟩, h.2.below hB⟩
theorem SnpsAt.at {N : Nat} {W : World} {a : Option Addr} {l : List Snp} (h : SnpsAt N W a l) {i : Nat} (hi : i < l.length) : ∃ b off, a = some ⟨b, off, none⟩ ∧ b < N ∧ SnpAt N W b (off + i * 3) (l.getD i nilSnp) := by
  rcases h with rfl | ⟨b, off, ha, hb, h⟩
  · simp at hi
  · exact ⟨b, off, ha, hb, h i hi⟩

/-- A disk beside boxes: whatever is done to the disk leaves the boxes. -/
theorem Bx.next {N : Nat} {S : Nat → Prop} {w V0 V : World} {d : Nat} {q : PD} (h : Bx N S w V0 V d q) (hS : ∀ i, S i → i < w.heap.size ∧ N ≤ i) (hN : N ≤ w.heap.size) (hw : w.heap.size ≤ V0.heap.size) : ∃ S', Dsk N V S' d q ∧ N ≤ V.heap.size ∧ ∀ V' q', Then N S' V V' d q' → Bx N S w V0 V' d q' := by
  obtain ⟨⟨S', h1, h2⟩, h3, h4, h5⟩ := h
  have hz := h3.size
  refine ⟨S', h1, by omega, fun V' q' hT => ?_⟩
  have hz' := hT.out.size
  refine ⟨⟨_, hT.dsk, fun i hi => ?_⟩, h3.trans hT.out (fun i hi hl => ?_), fun i hi hl => ?_, by omega⟩
  · rcases hi with h9 | h9
    · exact h2 i h9
    · right; have := h9.1; omega
  · rcases h2 i hi with h9 | h9
    · exact h9
    · omega
  · refine (hT.out.block i (by omega) (fun h9 => ?_)).trans (h4 i hi hl)
    rcases h2 i h9 with h8 | h8
    · have := (hS i h8).1; omega
    · omega
/-- Bytes of the boxes' own. -/
theorem Bx.ow {N : Nat} {S : Nat → Prop} {w V0 V : World} {d : Nat} {q : PD} (h : Bx N S w V0 V d q) {v : Value} {l : List UInt8} (hO : Ow w.heap.size V0 v l) : Ow w.heap.size V v l := by
  rcases hO with ⟨q1, q2 | ⟨g, cap', cur, q2, q3, q4, q5⟩⟩
  · exact ⟨q1, .inl q2⟩
  · have hgl := (Array.getElem?_eq_some_iff.1 q4).1
    exact ⟨q1, .inr ⟨g, cap', cur, q2, q3, (h.keep g q3 hgl).trans q4, q5⟩⟩
section
variable {N : Nat} {S : Nat → Prop} {w V0 V : World} {d : Nat} {q : PD}
theorem Bx.arm (h : Bx N S w V0 V d q) (hS : ∀ i, S i → i < w.heap.size ∧ N ≤ i) (hN : N ≤ w.heap.size) (hw : w.heap.size ≤ V0.heap.size) (n : Int) (hn : n < 9223372036854775808) : Calls Tryz.prog 25 #[.pointer (some ⟨d, 0, none⟩), .int .i64 n] V fun r V' => r = .returned (.tuple #[]) ∧ Bx N S w V0 V' d { q with arm := n.toNat } := by
  obtain ⟨S', hD, hz, hn'⟩ := h.next hS hN hw
  refine (arm_x hD hz n hn).mono ?_
  rintro r V' ⟨rfl, hT⟩
  exact ⟨rfl, hn' _ _ hT⟩
theorem Bx.crash (h : Bx N S w V0 V d q) (hS : ∀ i, S i → i < w.heap.size ∧ N ≤ i) (hN : N ≤ w.heap.size) (hw : w.heap.size ≤ V0.heap.size) (n : Int) : Calls Tryz.prog 26 #[.pointer (some ⟨d, 0, none⟩), .int .i64 n] V fun r V' => r = .returned (.tuple #[]) ∧ Bx N S w V0 V' d (doCrash q n) := by
  obtain ⟨S', hD, hz, hn'⟩ := h.next hS hN hw
  refine (crash_dsk hD hz n).mono ?_
  rintro r V' ⟨rfl, hT⟩
  exact ⟨rfl, hn' _ _ hT⟩
theorem Bx.bel (h : Bx N S w V0 V d q) (hS : ∀ i, S i → i < w.heap.size ∧ N ≤ i) (hN : N ≤ w.heap.size) : Below N w V := h.out.below hN (fun i hi => (hS i hi).2)
theorem Bx.save (h : Bx N S w V0 V d q) (hS : ∀ i, S i → i < w.heap.size ∧ N ≤ i) (hN : N ≤ w.heap.size) (hw : w.heap.size ≤ V0.heap.size) (hv : ∀ V, Below N w V → Vars V) (i t : Int) (m : List UInt8) (a : Option Addr) (cap : Nat) (hx : Sl N V (.slice a m.length cap) m) :
    Calls Tryz.prog 24 #[.pointer (some ⟨d, 0, none⟩), .agg #[.int .i64 i, .int .i64 t, .slice a m.length cap]] V fun r V' => r = .returned (.int .i64 ((saveP q i t m).1 : Int)) ∧ Bx N S w V0 V' d (saveP q i t m).2 := by
  have hb := h.bel hS hN
  obtain ⟨S', hD, hz, hn'⟩ := h.next hS hN hw
  refine (save_any hD hz (fun V' hV' => hv V' (hb.trans hV')) i t m a cap N hx hz).mono ?_
  rintro r V' ⟨rfl, hT⟩
  exact ⟨rfl, hn' _ _ hT⟩
theorem Bx.load (h : Bx N S w V0 V d q) (hS : ∀ i, S i → i < w.heap.size ∧ N ≤ i) (hN : N ≤ w.heap.size) (hv : ∀ V, Below N w V → Vars V) : Calls Tryz.prog 12 #[.pointer (some ⟨d, 0, none⟩)] V fun r V' => LdR V (loadS q) r V' := by
  have hb := h.bel hS hN
  obtain ⟨⟨S', hD, -⟩, -, -, -⟩ := h
  exact load_any hD (fun V' hV' => hv V' (hb.trans (hV'.mono (by have := hb.size; omega))))
theorem Bx.rise (h : Bx N S w V0 V d q) : Rise q := by
  obtain ⟨⟨S', hD, -⟩, -, -, -⟩ := h
  exact hD.rise
end
end Go.Proofs.YtadajbdmlmickaaGreatDoor
