/-
  What of the disk the snapshots need; a disk beside boxes of a call's own.
-/
import Derived.Test.YtnahghldlkjleaaGreatDoorJDd
namespace Go.Proofs.YtnahghldlkjleaaGreatDoor
open Go.RowKit Go.Shelf
set_option linter.unusedVariables false

theorem row_shape_x {w : World} {N s n : Nat} {e : TypeId} {v : Value} {x : List Value} (h : w.ownsRow N e s v n x) : ∃ a c, v = .slice a n c := by
  rcases h.2 with ⟨hv, h0⟩ | ⟨g, cap, cur, hv, r⟩
  · rw [h0]; exact ⟨_, _, hv⟩
  · exact ⟨_, _, hv⟩
/-- What Read answers. -/
def rdX (p : PD) (nm : List UInt8) : List UInt8 × Nat := match lookP nm p.fs with | some f => (f.dat, 0) | none => ([], 8)

set_option maxRecDepth 100000 in
set_option maxHeartbeats 4000000 in
theorem read_y {S : Nat → Prop} {w : World} {d : Nat} {k : DS} (h : DkC S w d k) (nm : List UInt8) (hn : nm.length ≤ maxLen) : Calls Tryz.prog 41 #[.pointer (some ⟨d, 0, none⟩), .string ⟨nm.toArray⟩] w fun r w' => ∃ v, r = .returned (.tuple #[v, .int .i64 ((rdX k.pd nm).2 : Int)]) ∧ Ow w.heap.size w' v (rdX k.pd nm).1 ∧ Below w.heap.size w w' := by
  obtain ⟨⟨c0, c1, c2, c3⟩, f1, f2, f3⟩ := h.cells
  have hm := h.hm
  cases hf : look nm k.rs with
  | none =>
    have HE : Hid (rdX k.pd nm = ([], 8)) := by show rdX k.pd nm = _; unfold rdX; rw [look_pd, hf]; rfl
    clear h
    go_enter Tryz.func41, Tryz.ntmps41
    go_wp2_with (at_lookup; refine wpList_look_none rfl _ _ rfl _ _ _ rfl hm nm rfl hn hf ?_)
    go_ret2
    rw [HE.out]
    exact ⟨_, rfl, Ow.nil _ _, Below.refl _ _⟩
  | some r =>
    obtain ⟨hr, hrn⟩ := look_some hf
    have HE : Hid (rdX k.pd nm = (r.dat, 0)) := by show rdX k.pd nm = _; unfold rdX; rw [look_pd, hf]; rfl
    have hF := h.fs r hr
    obtain ⟨⟨g0, g1⟩, -⟩ := hF.cells
    obtain ⟨av, capv, hv, hlc, hcm⟩ := hF.own.shape
    have hown := hF.own
    rw [hv] at g0 hown
    have hfr := fresh_any w.heap.size _ r.dat w (hown.sl (Nat.le_refl _)) (by have h7 := sum_del_le hr; have := h.all; omega)
    clear h hF hv
    go_enter Tryz.func41, Tryz.ntmps41
    go_wp2_with (first
      | (at_lookup; refine wpList_look_some rfl _ _ rfl _ _ _ rfl hm nm rfl hn r hf ?_)
      | (go_at_call 67; refine hfr.mono ?_; rintro e w5 ⟨v5, rfl, hO5, hB5⟩; obtain ⟨ba, bc, rfl, -, -⟩ := hO5.shape)
      | fail)
    go_ret2
    rw [HE.out]
    exact ⟨_, rfl, hO5, hB5⟩
theorem read_x {N : Nat} {S : Nat → Prop} {w : World} {d : Nat} {p : PD} (h : Dsk N w S d p) (nm : List UInt8) (hn : nm.length ≤ maxLen) : Calls Tryz.prog 41 #[.pointer (some ⟨d, 0, none⟩), .string ⟨nm.toArray⟩] w fun r w' => ∃ v, r = .returned (.tuple #[v, .int .i64 ((rdX p nm).2 : Int)]) ∧ Ow w.heap.size w' v (rdX p nm).1 ∧ Below w.heap.size w w' := by
  obtain ⟨k, hk, rfl, hS⟩ := h
  exact read_y hk nm hn
theorem has_x {N : Nat} {S : Nat → Prop} {w : World} {d : Nat} {p : PD} (h : Dsk N w S d p) (nm : List UInt8) (hn : nm.length ≤ maxLen) : Calls Tryz.prog 139 #[.pointer (some ⟨d, 0, none⟩), .string ⟨nm.toArray⟩] w fun r w' => r = .returned (.bool (lookP nm p.fs).isSome) ∧ w' = w := by
  obtain ⟨k, hk, rfl, hS⟩ := h
  rw [look_pd, Option.isSome_map]
  exact has_any hk nm hn

theorem then_x {N : Nat} {S : Nat → Prop} {w : World} {d : Nat} {F : Nat} {args : Array Value} {x : Nat × PD} (hS : ∀ i, S i → N ≤ i) (hN : N ≤ w.heap.size) (hc : Calls Tryz.prog F args w fun r w' => Done S w d x r w') : Calls Tryz.prog F args w fun r w' => r = .returned (.int .i64 (x.1 : Int)) ∧ Then N S w w' d x.2 := by
  refine hc.mono ?_
  rintro r w' ⟨k', rfl, hA, hp⟩
  exact ⟨rfl, Then.of hA hp hS hN⟩
/-- An operation of the disk, by its number. -/
theorem op_x {N : Nat} {S : Nat → Prop} {w : World} {d : Nat} {p : PD} (h : Dsk N w S d p) (hN : N ≤ w.heap.size) {F : Nat} {args : Array Value} {X : PD → Nat × PD} (hc : ∀ k, DkC S w d k → (∀ i, S i → N ≤ i) → Calls Tryz.prog F args w fun r w' => Done S w d (X k.pd) r w') : Calls Tryz.prog F args w fun r w' => r = .returned (.int .i64 ((X p).1 : Int)) ∧ Then N S w w' d (X p).2 := by
  obtain ⟨k, hk, rfl, hS⟩ := h
  exact then_x hS hN (hc k hk hS)
theorem list_x {N : Nat} {S : Nat → Prop} {w : World} {d : Nat} {p : PD} (h : Dsk N w S d p) : Calls Tryz.prog 59 #[.pointer (some ⟨d, 0, none⟩)] w fun r w' => ∃ a c, r = .returned (.slice a p.fs.length c) ∧ TextsIn w.heap.size w' (.slice a p.fs.length c) (p.fs.map PF.nm) ∧ Below w.heap.size w w' := by
  obtain ⟨k, hk, rfl, hS⟩ := h
  refine (list_any hk).mono ?_
  rintro r w' ⟨v, rfl, hT, hB⟩
  have e : k.rs.map Rw.nm = k.pd.fs.map PF.nm := by
    show _ = (k.rs.map (Rw.pf k.last)).map PF.nm
    rw [List.map_map]; rfl
  rw [e] at hT
  obtain ⟨a, c, hv⟩ := row_shape_x hT
  rw [List.length_map] at hv
  subst hv
  exact ⟨a, c, rfl, hT, hB⟩
theorem arm_x {N : Nat} {S : Nat → Prop} {w : World} {d : Nat} {p : PD} (h : Dsk N w S d p) (hN : N ≤ w.heap.size) (n : Int) (hn : n < 9223372036854775808) : Calls Tryz.prog 13 #[.pointer (some ⟨d, 0, none⟩), .int .i64 n] w fun r w' => r = .returned (.tuple #[]) ∧ Then N S w w' d { p with arm := n.toNat } := by
  obtain ⟨k, hk, rfl, hS⟩ := h
  refine (arm_any hk n hn).mono ?_
  rintro r w' ⟨rfl, hA⟩
  exact ⟨rfl, Then.of hA rfl hS hN⟩


theorem Dsk.wide {N : Nat} {S T : Nat → Prop} {w : World} {d : Nat} {p : PD} (h : Dsk N w S d p) (hT : ∀ i, S i → T i) (hi : ∀ i, T i → i < w.heap.size) (hn : ∀ i, T i → N ≤ i) : Dsk N w T d p := by
  obtain ⟨k, hk, hp, hS⟩ := h
  exact ⟨k, hk.mono hT hi, hp, hn⟩
theorem Dsk.rise {N : Nat} {S : Nat → Prop} {w : World} {d : Nat} {p : PD} (h : Dsk N w S d p) : p.fs.Pairwise (fun f g => bytesBefore f.nm g.nm = true) := by
  obtain ⟨k, hk, rfl, -⟩ := h
  show (k.rs.map (Rw.pf k.last)).Pairwise _
  rw [List.pairwise_map]
  exact hk.rise
theorem Dsk.dat {N : Nat} {S : Nat → Prop} {w : World} {d : Nat} {p : PD} (h : Dsk N w S d p) (nm : List UInt8) : (rdX p nm).1.length ≤ 16777216 := by
  obtain ⟨k, hk, rfl, -⟩ := h
  unfold rdX
  rw [look_pd]
  cases hf : look nm k.rs with
  | none => simp
  | some r =>
    obtain ⟨hr, hrn⟩ := look_some hf
    have h7 := sum_del_le hr
    have := hk.all
    show r.dat.length ≤ _
    omega
theorem Dsk.few {N : Nat} {S : Nat → Prop} {w : World} {d : Nat} {p : PD} (h : Dsk N w S d p) : p.fs.length ≤ 256 := by
  obtain ⟨k, hk, rfl, -⟩ := h
  have := hk.few
  show (k.rs.map (Rw.pf k.last)).length ≤ 256
  rw [List.length_map]; exact this
theorem Dsk.nml {N : Nat} {S : Nat → Prop} {w : World} {d : Nat} {p : PD} (h : Dsk N w S d p) : ∀ f ∈ p.fs, f.nm.length ≤ 32 := by
  obtain ⟨k, hk, rfl, -⟩ := h
  intro f hf
  obtain ⟨r, hr, rfl⟩ := List.mem_map.1 (show f ∈ k.rs.map (Rw.pf k.last) from hf)
  exact (hk.fs r hr).nm

/-- A disk of S, or of what was made behind V0; what lay in V0 beside it has not turned. -/
structure Bx (N : Nat) (S : Nat → Prop) (w V0 V : World) (d : Nat) (q : PD) : Prop where
  ex : ∃ S', Dsk N V S' d q ∧ ∀ i, S' i → S i ∨ V0.heap.size ≤ i
  out : Out S w V
  keep : ∀ i, w.heap.size ≤ i → i < V0.heap.size → V.heap[i]? = V0.heap[i]?
  ks : V0.heap.size ≤ V.heap.size

theorem Bx.start {N : Nat} {S : Nat → Prop} {w V0 : World} {d : Nat} {p : PD} (h : Dsk N w S d p) (hB : Below w.heap.size w V0) : Bx N S w V0 V0 d p :=
  ⟨⟨S, h.below hB, fun i hi => .inl hi⟩, Out.of_below hB, fun _ _ _ => rfl, Nat.le_refl _⟩
theorem Bx.below {N : Nat} {S : Nat → Prop} {w V0 V V' : World} {d : Nat} {q : PD} (h : Bx N S w V0 V d q) (hw : w.heap.size ≤ V0.heap.size) (hB : Below V.heap.size V V') : Bx N S w V0 V' d q := by
  obtain ⟨⟨S', h1, h2⟩, h3, h4, h5⟩ := h
  exact ⟨⟨S', h1.below hB, h2⟩, h3.trans (Y := fun _ => False) (Out.of_below hB) (fun _ hf _ => hf.elim), fun i hi hl => (hB.block i (by omega)).trans (h4 i hi hl), Nat.le_trans h5 hB.size⟩
theorem Bx.cell {N : Nat} {S : Nat → Prop} {w V0 V : World} {d : Nat} {q : PD} (h : Bx N S w V0 V d q) {i : Nat} (h1 : w.heap.size ≤ i) (h2 : i < V0.heap.size) {x : Obj} (hx : V0.heap[i]? = some x) : V.heap[i]? = some x := (h.keep i h1 h2).trans hx
theorem Bx.thn {N : Nat} {S : Nat → Prop} {w V0 V : World} {d : Nat} {q : PD} (h : Bx N S w V0 V d q) (hS : ∀ i, S i → i < w.heap.size ∧ N ≤ i) (hN : N ≤ w.heap.size) (hw : w.heap.size ≤ V0.heap.size) : Then N S w V d q := by
  obtain ⟨⟨S', h1, h2⟩, h3, h4, h5⟩ := h
  refine ⟨h1.wide (fun i hi => ?_) (fun i hi => ?_) (fun i hi => ?_), h3, h3.below hN (fun i hi => (hS i hi).2)⟩
  · rcases h2 i hi with h9 | h9
    · exact .inl h9
    · exact .inr ⟨by omega, h1.inn i hi⟩
  · rcases hi with h9 | h9
    · have := (hS i h9).1; have := h3.size; omega
    · exact h9.2
  · rcases hi with h9 | h9
    · exact (hS i h9).2
    · have := h9.1; omega
/-- Behind an operation of the disk. -/
theorem Bx.op {N : Nat} {S : Nat → Prop} {w V0 V : World} {d : Nat} {q : PD} (h : Bx N S w V0 V d q) (hS : ∀ i, S i → i < w.heap.size ∧ N ≤ i) (hN : N ≤ w.heap.size) (hw : w.heap.size ≤ V0.heap.size) {F : Nat} {args : Array Value} {x : Nat × PD} (hc : ∀ S', Dsk N V S' d q → N ≤ V.heap.size → (∀ i, S' i → S i ∨ V0.heap.size ≤ i) → Calls Tryz.prog F args V fun r w' => r = .returned (.int .i64 (x.1 : Int)) ∧ Then N S' V w' d x.2) :
    Calls Tryz.prog F args V fun r w' => r = .returned (.int .i64 (x.1 : Int)) ∧ Bx N S w V0 w' d x.2 := by
  obtain ⟨⟨S', h1, h2⟩, h3, h4, h5⟩ := h
  have hz := h3.size
  refine (hc S' h1 (by omega) h2).mono ?_
  rintro r w' ⟨rfl, hT⟩
  have hz' := hT.out.size
  refine ⟨rfl, ⟨_, hT.dsk, fun i hi => ?_⟩, h3.trans hT.out (fun i hi hl => ?_), fun i hi hl => ?_, by omega⟩
  · rcases hi with h9 | h9
    · exact h2 i h9
    · right; have := h9.1; omega
  · rcases h2 i hi with h9 | h9
    · exact h9
    · omega
  · refine (hT.out.block i (by omega) (fun h9 => ?_)).trans (h4 i hi hl)
    rcases h2 i h9 with h8 | h8
    · have := (hS i h8).1; omega
    · omega
end Go.Proofs.YtnahghldlkjleaaGreatDoor
