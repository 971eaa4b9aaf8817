/-
  NetOrder: the walk.
-/
import Derived.Test.YtefbfjlmhfmiiaaFi
import Derived.Test.YtefbfjlmhfmiiaaWq
namespace Go.Proofs.Ytefbfjlmhfmiiaa
open Go.RowKit
set_option linter.unusedVariables false

theorem Nt.base {N N' : Nat} {S : Nat → Prop} {w : World} {b : Nat} {P : PN} (h : Nt N S w b P) (hN : N' ≤ N) : Nt N' S w b P := ⟨h.at_, h.ok, h.Sb, h.inn, fun i hi => Nat.le_trans hN (h.fr i hi)⟩

theorem PN.lnk_link {P : PN} (h : P.Ok) {a b : Int} (t : P.two a b = true) (u : Bool) : (P.link a b u).lnk a b = u ∧ (P.link a b u).lnk b a = u := by
  obtain ⟨a1, a2, b1, b2, hne⟩ := PN.two_of h t
  obtain ⟨i, rfl⟩ : ∃ i : Nat, a = (i : Int) := ⟨a.toNat, by omega⟩
  obtain ⟨j, rfl⟩ : ∃ j : Nat, b = (j : Int) := ⟨b.toNat, by omega⟩
  have e : P.link (i : Int) (j : Int) u = { P with L := linkL P.L i j u } := by unfold PN.link; rw [if_pos t]
  rw [e]
  unfold PN.lnk lk
  have t1 : ({ P with L := linkL P.L i j u } : PN).two (i : Int) (j : Int) = true := t
  have t2 : ({ P with L := linkL P.L i j u } : PN).two (j : Int) (i : Int) = true := by
    simp only [PN.two, PN.has, Bool.and_eq_true, decide_eq_true_eq, bne_iff_ne] at t ⊢
    exact ⟨⟨t.1.2, t.1.1⟩, fun e => t.2 e.symm⟩
  rw [t1, t2]
  simp only [Bool.true_and, Int.toNat_natCast]
  show (linkL P.L (i : Int) (j : Int) u).getD _ false = u ∧ (linkL P.L (i : Int) (j : Int) u).getD _ false = u
  rw [linkL_get _ h.len (by omega) (by omega) (by omega) (by omega), linkL_get _ h.len (by omega) (by omega) (by omega) (by omega)]
  simp

def mkey (m : Ma) : Int × Int × List UInt8 × Bool := (mF m, mT m, mD m, mS m)
def okey (o : Opn) : Int × Int × List UInt8 × Bool := (o.a, o.b, o.d, false)

/-- What holds between operations: the network, and the row of what is on its way. -/
structure OS (N : Nat) (w wr : World) (b : Nat) (rv : Value) (i : Nat) (S : Nat → Prop) (P : PN) (rl : List Opn) : Prop where
  nt : Nt N S wr b P
  row : Wq wr rv rl
  ap : ∀ g, rv.ownBlock = some g → ¬ S g ∧ N ≤ g
  key : P.E.map mkey = rl.map okey
  dat : ∀ o ∈ rl, Sl N w o.x o.d
  k : P.k ≤ i
  bel : Below N w wr

theorem OS.len {N : Nat} {w wr : World} {b : Nat} {rv : Value} {i : Nat} {S : Nat → Prop} {P : PN} {rl : List Opn} (h : OS N w wr b rv i S P rl) : P.E.length = rl.length := by
  have := congrArg List.length h.key
  simpa using this
/-- What only makes memory. -/
theorem OS.below {N : Nat} {w wr w' : World} {b : Nat} {rv : Value} {i : Nat} {S : Nat → Prop} {P : PN} {rl : List Opn} (h : OS N w wr b rv i S P rl) (hB : Below wr.heap.size wr w') (hN : N ≤ w.heap.size) : OS N w w' b rv i S P rl :=
  ⟨h.nt.below hB, h.row.out (X := fun _ => False) (Out.of_below hB) (fun _ _ hf => hf), h.ap, h.key, h.dat, h.k, h.bel.trans (hB.mono (Nat.le_trans hN h.bel.size))⟩
/-- The network turns. -/
theorem OS.net {N : Nat} {w wr w' : World} {b : Nat} {rv : Value} {i : Nat} {S : Nat → Prop} {P P' : PN} {rl : List Opn} (h : OS N w wr b rv i S P rl) (hT : NTh N S wr w' b P') (hN : N ≤ w.heap.size) (hE : P'.E.map mkey = P.E.map mkey) (hk : P'.k ≤ P.k + 1) : OS N w w' b rv (i + 1) (grew S wr w') P' rl :=
  ⟨hT.q, h.row.out hT.out (fun g hg => (h.ap g hg).1), fun g hg => ⟨fun hs => hs.elim (h.ap g hg).1 (fun h' => by have := h.row.lt hg; omega), (h.ap g hg).2⟩, hE.trans h.key, h.dat, by have := h.k; omega, h.bel.trans (hT.bel (Nat.le_trans hN h.bel.size))⟩

theorem PN.send_no {P : PN} {f t : Int} {d : List UInt8} (h : P.snd f t = false) : P.send f t d = P := by
  unfold PN.snd at h
  unfold PN.send
  by_cases hl : P.lnk f t = true
  · rw [if_pos hl]
    unfold PN.add
    rw [hl] at h
    rw [if_neg (by simpa using h)]
  · rw [if_neg hl]
theorem PN.send_yes {P : PN} {f t : Int} {d : List UInt8} (h : P.snd f t = true) : P.send f t d = { P with E := P.E ++ [(P.k + 1, f, t, d, false)], k := P.k + 1 } := by
  unfold PN.snd at h
  simp only [Bool.and_eq_true, decide_eq_true_eq] at h
  unfold PN.send
  rw [if_pos h.1]
  unfold PN.add
  rw [if_pos h.2]
theorem OS.sent {N : Nat} {w wr w2 w4 : World} {b : Nat} {rv rv' : Value} {i : Nat} {S : Nat → Prop} {P : PN} {rl : List Opn} {o : Opn} {ob : Obj} (h : OS N w wr b rv i S P rl) (hN : N ≤ w.heap.size) (hs : P.snd o.a o.b = true) (hT : NTh N S wr w2 b (P.send o.a o.b o.d)) (hd : Sl N w o.x o.d) (hr : Wq w4 rv' (rl ++ [o])) (hg : (w2.alloc ob).grownBy w4 rv.ownBlock) (hv : rv'.ownBlock = rv.ownBlock ∨ rv'.ownBlock = some (w2.alloc ob).heap.size) : OS N w w4 b rv' (i + 1) (grew S wr w2) (P.send o.a o.b o.d) (rl ++ [o]) := by
  have hB2 : Below N w w2 := h.bel.trans (hT.bel (Nat.le_trans hN h.bel.size))
  have hO : Out (fun g => rv.ownBlock = some g) w2 w4 := ((Out.refl _ w2).alloc ob).trans (Out.grown hg (X := fun g => rv.ownBlock = some g) (fun j hj => hj)) (fun _ hi _ => hi)
  have hlt : ∀ g, rv.ownBlock = some g → ¬ grew S wr w2 g := fun g hg' hs' => hs'.elim (h.ap g hg').1 (fun h' => by have := h.row.lt hg'; omega)
  refine ⟨hT.q.out hO (fun g hs' hg' => hlt g hg' hs'), hr, fun g hg' => ?_, ?_, ?_, ?_, ?_⟩
  · rcases hv with e | e
    · rw [e] at hg'; exact ⟨hlt g hg', (h.ap g hg').2⟩
    · rw [e] at hg'
      cases hg'
      rw [World.size_alloc]
      refine ⟨fun hs' => ?_, by have := hB2.size; omega⟩
      have := hT.q.inn _ hs'
      omega
  · rw [PN.send_yes hs, List.map_append, List.map_append, h.key]; rfl
  · intro x hx
    rcases List.mem_append.1 hx with hx | hx
    · exact h.dat x hx
    · obtain rfl := List.mem_singleton.1 hx; exact hd
  · rw [PN.send_yes hs]
    show P.k + 1 ≤ _
    have := h.k
    omega
  · exact hB2.trans (hO.below (by have := hB2.size; omega) (fun g hg' => (h.ap g hg').2))
/-- The first one is taken. -/
theorem OS.took {N : Nat} {w wr w2 : World} {b : Nat} {rv rv' : Value} {i : Nat} {S : Nat → Prop} {P : PN} {rl : List Opn} {o : Opn} (h : OS N w wr b rv i S P (o :: rl)) (hN : N ≤ w.heap.size) (hT : NTh N S wr w2 b (P.take 0)) : ∃ m, P.E.getD 0 nilMa = m ∧ mkey m = okey o ∧ ∀ w4, Below w2.heap.size w2 w4 → Wq w4 rv' rl → (∀ g, rv'.ownBlock = some g → rv.ownBlock = some g) → OS N w w4 b rv' (i + 1) (grew S wr w2) (P.take 0) rl := by
  have hk := h.key
  cases hE : P.E with
  | nil => rw [hE] at hk; simp at hk
  | cons m E' =>
    rw [hE] at hk
    simp only [List.map_cons, List.cons.injEq] at hk
    refine ⟨m, rfl, hk.1, fun w4 hB4 hr hv => ?_⟩
    have htk : P.take 0 = { P with E := E' } := by
      unfold PN.take PN.at
      rw [hE]
      simp
    have hB2 : Below N w w2 := h.bel.trans (hT.bel (Nat.le_trans hN h.bel.size))
    refine ⟨hT.q.below hB4, hr, fun g hg => ?_, by rw [htk]; exact hk.2, fun x hx => h.dat x (List.mem_cons_of_mem _ hx), by rw [htk]; have := h.k; show P.k ≤ _; omega, hB2.trans (hB4.mono (Nat.le_trans hN hB2.size))⟩
    have hg' := hv g hg
    exact ⟨fun hs => hs.elim (h.ap g hg').1 (fun h' => by have := h.row.lt hg'; omega), (h.ap g hg').2⟩

theorem op_cells (w : World) (o : Opn) (t : TypeId) : ∀ j u, (opCells [o])[j]? = some u → (w.alloc (.cells #[.int .i64 o.kd, .int .i64 o.a, .int .i64 o.b, .bool o.up, .slice o.da o.d.length o.dc] t)).cell? ⟨w.heap.size, 0 + j, none⟩ = some u := by
  intro j u hu
  have hh := heap_alloc_new w (.cells #[.int .i64 o.kd, .int .i64 o.a, .int .i64 o.b, .bool o.up, .slice o.da o.d.length o.dc] t)
  simp only [World.cell?, hh, Nat.zero_add]
  simpa [opCells, Opn.x] using hu
end Go.Proofs.Ytefbfjlmhfmiiaa
