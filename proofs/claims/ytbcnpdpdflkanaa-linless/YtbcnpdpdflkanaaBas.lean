/-
  What may turn; operations as values and cells.
-/
import Derived.Test.YtbcnpdpdflkanaaProg
import Derived.Test.YtbcnpdpdflkanaaPl
import Derived.Below
import Derived.WalkKit
import Derived.WalkSpells
import Derived.WalkLawsBesides
import Derived.BigQuiet
import Derived.Deep.QuietTactic
import Derived.Deep.RegionWith
import Derived.Laws.AppendOwnNone
import Derived.Maps.AppendAt
import Derived.Maps.RangeWalk
import Derived.Maps.OwnSet
import Derived.Deep.RegionHeld3
import Derived.Deep.RegionLaw
import Derived.Handy
import Derived.Outline
namespace Go.Proofs.Ytbcnpdpdflkanaa
open Go.RowKit

/-! ### what may turn -/
/-- Blocks outside X are as they were. -/
structure Out (X : Nat → Prop) (w w' : World) : Prop where
  os : w'.os = w.os
  tape : w'.tape = w.tape
  output : w'.output = w.output
  size : w.heap.size ≤ w'.heap.size
  block : ∀ i, i < w.heap.size → ¬ X i → w'.heap[i]? = w.heap[i]?

/-- The blocks of X, and those that are new. -/
def grew (X : Nat → Prop) (w w' : World) : Nat → Prop := fun i => X i ∨ (w.heap.size ≤ i ∧ i < w'.heap.size)

theorem Out.refl (X : Nat → Prop) (w : World) : Out X w w := ⟨rfl, rfl, rfl, Nat.le_refl _, fun _ _ _ => rfl⟩
theorem Out.trans {X Y : Nat → Prop} {a b c : World} (h : Out X a b) (k : Out Y b c) (hY : ∀ i, Y i → i < a.heap.size → X i) : Out X a c :=
  ⟨k.os.trans h.os, k.tape.trans h.tape, k.output.trans h.output, Nat.le_trans h.size k.size, fun i hi hx => (k.block i (Nat.lt_of_lt_of_le hi h.size) (fun hy => hx (hY i hy hi))).trans (h.block i hi hx)⟩
theorem Out.mono {X Y : Nat → Prop} {a b : World} (h : Out X a b) (hX : ∀ i, X i → Y i) : Out Y a b := ⟨h.os, h.tape, h.output, h.size, fun i hi hy => h.block i hi (fun hx => hy (hX i hx))⟩
theorem Out.grown {X : Nat → Prop} {a b : World} {row : Option Nat} (h : a.grownBy b row) (hr : ∀ j, row = some j → X j) : Out X a b :=
  ⟨h.os, h.tape, h.output, h.size, fun i hi hx => h.block i hi (fun e => hx (hr i e.symm))⟩
theorem Out.of_below {X : Nat → Prop} {a b : World} (h : Below a.heap.size a b) : Out X a b := ⟨h.os, h.tape, h.output, h.size, fun i hi _ => h.block i hi⟩
theorem Out.below {X : Nat → Prop} {a b : World} {N : Nat} (h : Out X a b) (hN : N ≤ a.heap.size) (hX : ∀ i, X i → N ≤ i) : Below N a b :=
  ⟨h.os, h.tape, h.output, h.size, fun i hi => h.block i (by omega) (fun hx => by have := hX i hx; omega)⟩
theorem Out.set {X : Nat → Prop} {w : World} {b o : Nat} {u : Value} (hb : X b) : Out X w (w.setCell ⟨b, o, none⟩ u) :=
  ⟨rfl, rfl, rfl, by simp [World.setCell], fun i _ hx => Below.heap_setCell _ _ _ _ (fun e => hx (by rw [e]; exact hb))⟩
theorem Out.step {X : Nat → Prop} {a b c : World} (h : Out X a b) (k : Out (grew X a b) b c) : Out X a c :=
  h.trans k (fun i hi hl => hi.elim id (fun h2 => absurd h2.1 (by omega)))
theorem grew_refl {X : Nat → Prop} {w : World} {i : Nat} (h : grew X w w i) : X i := h.elim id (fun h2 => absurd h2.2 (by omega))
theorem grew_mono {X : Nat → Prop} {w a b : World} (h : a.heap.size ≤ b.heap.size) {i : Nat} (hi : grew X w a i) : grew X w b i := hi.imp id (fun h2 => ⟨h2.1, by omega⟩)

theorem grown_trans {w W W' : World} {row r : Option Nat} (h : w.grownBy W row) (hg : W.grownBy W' r) (hr : ∀ k, r = some k → row = some k ∨ w.heap.size ≤ k) : w.grownBy W' row :=
  ⟨hg.os.trans h.os, hg.tape.trans h.tape, hg.output.trans h.output, Nat.le_trans h.size hg.size, fun k hk hne =>
    (hg.block k (Nat.lt_of_lt_of_le hk h.size) (fun e => by
      rcases hr k e.symm with h' | h'
      · exact hne h'.symm
      · omega)).trans (h.block k hk hne)⟩

theorem grown_refl (w : World) (row : Option Nat) : w.grownBy w row := ⟨rfl, rfl, rfl, Nat.le_refl _, fun _ _ _ => rfl⟩

theorem heap_set {W : World} {B : Nat} {cs : Array Value} {t : TypeId} {z : Nat × Nat} (h : W.heap[B]? = some (.cells cs t z)) (o : Nat) (u : Value) : (W.setCell ⟨B, o, none⟩ u).heap[B]? = some (.cells (cs.setIfInBounds o u) t z) := by
  simp only [World.setCell, Array.getElem?_modify, if_pos]
  rw [h]; rfl
theorem size_set (W : World) (a : Addr) (u : Value) : (W.setCell a u).heap.size = W.heap.size := by simp [World.setCell]
theorem Out.put {X : Nat → Prop} {w a : World} {b o : Nat} {u : Value} (h : Out X w a) (hb : X b) : Out X w (a.setCell ⟨b, o, none⟩ u) := h.trans (Out.set (X := X) hb) (fun _ hi _ => hi)
theorem Out.drew {X : Nat → Prop} (w : World) (n : Nat) : Out X w (w.drewN n) := ⟨rfl, rfl, rfl, Nat.le_refl _, fun _ _ _ => rfl⟩
theorem Out.alloc {X : Nat → Prop} {w a : World} (h : Out X w a) (o : Obj) : Out X w (a.alloc o) := h.trans (Y := fun _ => False) (Out.of_below ((Below.refl _ _).alloc (Nat.le_refl _) _)) (fun _ h _ => h.elim)


/-! ### operations -/
def str (l : Bs) : Value := .string ⟨l.toArray⟩
def Rp.v (r : Rp) : Value := .agg #[.int .i64 r.code, str r.val]
def Lo.cells (x : Lo) : Array Value := #[.int .i64 x.cl, .int .i64 x.sq, .int .i64 x.kind, str x.key, str x.val, str x.old, .int .i64 x.call, .int .i64 x.back, .int .i64 x.rp.code, str x.rp.val]
def Lo.v (x : Lo) : Value := .agg #[.int .i64 x.cl, .int .i64 x.sq, .int .i64 x.kind, str x.key, str x.val, str x.old, .int .i64 x.call, .int .i64 x.back, .int .i64 x.rp.code, str x.rp.val]
/-- Its box. -/
def Lo.box (x : Lo) : Obj := .cells x.cells 35

set_option maxRecDepth 100000 in
theorem open_any (x : Lo) (w : World) : Calls Try.prog 33 #[x.v] w fun e w' => e = .returned (.bool (decide (x.back = 0))) ∧ w' = w.alloc x.box := by
  unfold Lo.v Lo.box Lo.cells
  generalize str x.key = s1
  generalize str x.val = s2
  generalize str x.old = s3
  generalize str x.rp.val = s4
  go_enter Try.func33, Try.ntmps33
  go_wp2
  go_ret
  exact ⟨by first | rfl | (simp; done), rfl⟩
end Go.Proofs.Ytbcnpdpdflkanaa
