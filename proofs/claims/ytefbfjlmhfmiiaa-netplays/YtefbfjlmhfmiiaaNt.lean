/-
  A network: as plain numbers, links and mails; as it lies in memory.
-/
import Derived.Test.YtefbfjlmhfmiiaaMl
namespace Go.Proofs.Ytefbfjlmhfmiiaa
open Go.RowKit
set_option linter.unusedVariables false

/-- A network: its nodes, the matrix of links, the row, how many were sent or copied. -/
structure PN where
  n : Int
  L : List Bool
  E : List Ma
  k : Int

/-- A node of it? -/
def PN.has (P : PN) (a : Int) : Bool := decide (1 ≤ a) && decide (a ≤ P.n)
/-- Two nodes of it? -/
def PN.two (P : PN) (a b : Int) : Bool := P.has a && P.has b && (a != b)
def lk (L : List Bool) (a b : Int) : Bool := L.getD (8 * a.toNat + b.toNat) false
/-- Linked? -/
def PN.lnk (P : PN) (a b : Int) : Bool := P.two a b && lk P.L a b

structure PN.Ok (P : PN) : Prop where
  n1 : 1 ≤ P.n
  n7 : P.n ≤ 7
  len : P.L.length = 64
  sym : ∀ i j, i < 8 → j < 8 → P.L.getD (8 * i + j) false = P.L.getD (8 * j + i) false
  row : P.E.length ≤ 2000
  k0 : 0 ≤ P.k
  dl : ∀ e ∈ P.E, (mD e).length ≤ 140737488355328

theorem PN.two_of {P : PN} {a b : Int} (h : P.Ok) (t : P.two a b = true) : 1 ≤ a ∧ a ≤ 7 ∧ 1 ≤ b ∧ b ≤ 7 ∧ a ≠ b := by
  have := h.n7
  simp [PN.two, PN.has] at t
  omega

/-- A network's cells. -/
def netCells (n : Int) (L : List Bool) (v : Value) (k : Int) : Array Value := (.int .i64 n :: (L.map Value.bool ++ [v, .int .i64 k])).toArray
theorem netCells_size (n : Int) (L : List Bool) (v : Value) (k : Int) (h : L.length = 64) : (netCells n L v k).size = 67 := by simp [netCells, h]
theorem netCells_0 (n : Int) (L : List Bool) (v : Value) (k : Int) : (netCells n L v k)[0]? = some (.int .i64 n) := by simp [netCells]
theorem netCells_link (n : Int) (L : List Bool) (v : Value) (k : Int) (h : L.length = 64) {j : Nat} (hj : j < 64) : (netCells n L v k)[1 + j]? = some (.bool (L.getD j false)) := by
  have : 1 + j = j + 1 := by omega
  rw [this]
  simp [netCells, List.getElem?_append, h, hj, List.getD_eq_getElem?_getD]
theorem netCells_row (n : Int) (L : List Bool) (v : Value) (k : Int) (h : L.length = 64) : (netCells n L v k)[65]? = some v := by
  simp [netCells, h]
theorem netCells_k (n : Int) (L : List Bool) (v : Value) (k : Int) (h : L.length = 64) : (netCells n L v k)[66]? = some (.int .i64 k) := by
  simp [netCells, h]
theorem netCells_setLink (n : Int) (L : List Bool) (v : Value) (k : Int) (h : L.length = 64) {j : Nat} (hj : j < 64) (u : Bool) : (netCells n L v k).setIfInBounds (1 + j) (.bool u) = netCells n (L.set j u) v k := by
  have : 1 + j = j + 1 := by omega
  rw [this]
  apply Array.toList_inj.1
  simp only [netCells, Array.toList_setIfInBounds, List.set_cons_succ]
  rw [List.set_append_left _ _ (by simp [h, hj]), List.map_set]
theorem netCells_setRow (n : Int) (L : List Bool) (v u : Value) (k : Int) (h : L.length = 64) : (netCells n L v k).setIfInBounds 65 u = netCells n L u k := by
  apply Array.toList_inj.1
  simp only [netCells, Array.toList_setIfInBounds]
  rw [show (65 : Nat) = 64 + 1 from rfl, List.set_cons_succ, List.set_append_right _ _ (by simp [h])]
  simp [h]
theorem netCells_setK (n : Int) (L : List Bool) (v : Value) (k k' : Int) (h : L.length = 64) : (netCells n L v k).setIfInBounds 66 (.int .i64 k') = netCells n L v k' := by
  apply Array.toList_inj.1
  simp only [netCells, Array.toList_setIfInBounds]
  rw [show (66 : Nat) = 65 + 1 from rfl, List.set_cons_succ, List.set_append_right _ _ (by simp [h])]
  simp [h]

/-- Two mails' data lie apart. -/
def Apt (e f : Ml) : Prop := ∀ g, e.x.ownBlock = some g → f.x.ownBlock ≠ some g
theorem Apt.symm {e f : Ml} (h : Apt e f) : Apt f e := fun g hf he => h g he hf

/-- Block b holds a network, its row at v. -/
structure NtM (w : World) (b : Nat) (P : PN) (v : Value) (es : List Ml) : Prop where
  blk : w.heap[b]? = some (.cells (netCells P.n P.L v P.k) 57 (0, 0))
  row : MlsOw 41 0 w v es
  says : es.map Ml.says = P.E
  apt : es.Pairwise Apt

/-- Block b holds a network; its blocks lie in S, from N on. -/
structure Nt (N : Nat) (S : Nat → Prop) (w : World) (b : Nat) (P : PN) : Prop where
  at_ : ∃ v es, NtM w b P v es ∧ (∀ g, v.ownBlock = some g → S g) ∧ (∀ e ∈ es, ∀ g, e.x.ownBlock = some g → S g)
  ok : P.Ok
  Sb : S b
  inn : ∀ i, S i → i < w.heap.size
  fr : ∀ i, S i → N ≤ i

/-- Behind a call the network is P; nothing else has turned. -/
structure NTh (N : Nat) (S : Nat → Prop) (w w' : World) (b : Nat) (P : PN) : Prop where
  q : Nt N (grew S w w') w' b P
  out : Out S w w'

theorem Nt.out {N : Nat} {S X : Nat → Prop} {w w' : World} {b : Nat} {P : PN} (h : Nt N S w b P) (hO : Out X w w') (hx : ∀ i, S i → ¬ X i) : Nt N S w' b P := by
  obtain ⟨v, es, ⟨hv, ho, hs, ha⟩, h1, h2⟩ := h.at_
  exact ⟨⟨v, es, ⟨(hO.block b (h.inn _ h.Sb) (hx _ h.Sb)).trans hv, ho.out hO (fun g hg => hx _ (h1 g hg)) (fun e he g hg => hx _ (h2 e he g hg)), hs, ha⟩, h1, h2⟩, h.ok, h.Sb, fun i hi => Nat.lt_of_lt_of_le (h.inn i hi) hO.size, h.fr⟩
theorem Nt.below {N : Nat} {S : Nat → Prop} {w w' : World} {b : Nat} {P : PN} (h : Nt N S w b P) (hB : Below w.heap.size w w') : Nt N S w' b P :=
  h.out (X := fun _ => False) (Out.of_below hB) (fun _ _ hf => hf)
theorem NTh.bel {N : Nat} {S : Nat → Prop} {w w' : World} {b : Nat} {P : PN} (h : NTh N S w w' b P) (hN : N ≤ w.heap.size) : Below N w w' :=
  h.out.below hN (fun i hi => h.q.fr i (.inl hi))
theorem grew_grew {X : Nat → Prop} {w a b : World} (h1 : w.heap.size ≤ a.heap.size) (h2 : a.heap.size ≤ b.heap.size) : grew (grew X w a) a b = grew X w b := by
  funext i
  apply propext
  unfold grew
  constructor
  · rintro ((h | h) | h)
    · exact .inl h
    · exact .inr ⟨h.1, by omega⟩
    · exact .inr ⟨by omega, h.2⟩
  · rintro (h | h)
    · exact .inl (.inl h)
    · by_cases hi : i < a.heap.size
      · exact .inl (.inr ⟨h.1, hi⟩)
      · exact .inr ⟨by omega, h.2⟩
theorem NTh.trans {N : Nat} {S : Nat → Prop} {w wr w2 : World} {b : Nat} {P P2 : PN} (h : NTh N S w wr b P) (k : NTh N (grew S w wr) wr w2 b P2) : NTh N S w w2 b P2 :=
  ⟨by rw [← grew_grew h.out.size k.out.size]; exact k.q, h.out.step k.out⟩
/-- Wider footprint. -/
theorem Nt.wide {N : Nat} {S : Nat → Prop} {w w0 : World} {b : Nat} {P : PN} (h : Nt N S w b P) (hN : N ≤ w0.heap.size) : Nt N (grew S w0 w) w b P := by
  obtain ⟨v, es, hm, h1, h2⟩ := h.at_
  exact ⟨⟨v, es, hm, fun g hg => .inl (h1 g hg), fun e he g hg => .inl (h2 e he g hg)⟩, h.ok, .inl h.Sb, fun i hi => hi.elim (fun h' => h.inn i h') (fun h' => h'.2), fun i hi => hi.elim (fun h' => h.fr i h') (fun h' => by omega)⟩
/-- What only reads leaves the network. -/
theorem Nt.th {N : Nat} {S : Nat → Prop} {w w' : World} {b : Nat} {P : PN} (h : Nt N S w b P) (hN : N ≤ w.heap.size) (hB : Below w.heap.size w w') : NTh N S w w' b P :=
  ⟨(h.below hB).wide hN, Out.of_below hB⟩
/-- What turns S alone and leaves a network there. -/
theorem Nt.turn {N : Nat} {S : Nat → Prop} {w w' : World} {b : Nat} {P P' : PN} (h : Nt N S w b P) (hN : N ≤ w.heap.size) (hO : Out S w w') (v : Value) (es : List Ml) (hm : NtM w' b P' v es) (h1 : ∀ g, v.ownBlock = some g → grew S w w' g) (h2 : ∀ e ∈ es, ∀ g, e.x.ownBlock = some g → grew S w w' g) (ok : P'.Ok) : NTh N S w w' b P' :=
  ⟨⟨⟨v, es, hm, h1, h2⟩, ok, .inl h.Sb, fun i hi => hi.elim (fun h' => Nat.lt_of_lt_of_le (h.inn i h') hO.size) (fun h' => h'.2), fun i hi => hi.elim (fun h' => h.fr i h') (fun h' => by omega)⟩, hO⟩

theorem NTh.drewN {N : Nat} {S : Nat → Prop} {w w' : World} {b : Nat} {P : PN} (h : NTh N S w w' b P) (n : Nat) : NTh N S w (w'.drewN n) b P :=
  ⟨h.q.out (X := fun _ => False) (Out.drew w' n) (fun _ _ hf => hf), h.out.trans (Y := fun _ => False) (Out.drew w' n) (fun _ hf _ => hf.elim)⟩
theorem NTh.drew {N : Nat} {S : Nat → Prop} {w w' : World} {b : Nat} {P : PN} (h : NTh N S w w' b P) : NTh N S w w'.drew b P := h.drewN 1
theorem Nt.drewN {N : Nat} {S : Nat → Prop} {w : World} {b : Nat} {P : PN} (h : Nt N S w b P) (n : Nat) : Nt N S (w.drewN n) b P := h.out (X := fun _ => False) (Out.drew w n) (fun _ _ hf => hf)

theorem NTh.same {N : Nat} {S : Nat → Prop} {w w' : World} {b : Nat} {P : PN} (h : NTh N S w w' b P) (hz : w'.heap.size = w.heap.size) : Nt N S w' b P := by
  have : grew S w w' = S := by
    funext i
    apply propext
    unfold grew
    exact ⟨fun h' => h'.elim id (fun h2 => by omega), .inl⟩
  have := this ▸ h.q
  exact this

theorem cell_net {w : World} {b : Nat} {n : Int} {L : List Bool} {v : Value} {k : Int} (h : w.heap[b]? = some (.cells (netCells n L v k) 57 (0, 0))) (hL : L.length = 64) :
    w.cell? ⟨b, 0, none⟩ = some (.int .i64 n) ∧ (∀ j, j < 64 → w.cell? ⟨b, 1 + j, none⟩ = some (.bool (L.getD j false))) ∧ w.cell? ⟨b, 65, none⟩ = some v ∧ w.cell? ⟨b, 66, none⟩ = some (.int .i64 k) ∧ ∀ o, w.frozen? ⟨b, o, none⟩ = false := by
  refine ⟨?_, fun j hj => ?_, ?_, ?_, fun o => ?_⟩
  · simp only [World.cell?, h]; exact netCells_0 _ _ _ _
  · simp only [World.cell?, h]; exact netCells_link _ _ _ _ hL hj
  · simp only [World.cell?, h]; exact netCells_row _ _ _ _ hL
  · simp only [World.cell?, h]; exact netCells_k _ _ _ _ hL
  · simp [World.frozen?, h]

/-- A network, opened. -/
theorem Nt.cells {N : Nat} {S : Nat → Prop} {w : World} {b : Nat} {P : PN} (h : Nt N S w b P) :
    ∃ va vc es, NtM w b P (.slice va P.E.length vc) es ∧ es.length = P.E.length ∧ P.E.length ≤ vc ∧ vc ≤ maxLen ∧ (∀ g, (Value.slice va P.E.length vc).ownBlock = some g → S g) ∧ (∀ e ∈ es, ∀ g, e.x.ownBlock = some g → S g) := by
  obtain ⟨v, es, ⟨hv, ho, hs, ha⟩, h1, h2⟩ := h.at_
  obtain ⟨va, vc, rfl, h3, h4⟩ := ho.shape
  have hl : es.length = P.E.length := by rw [← hs]; simp
  rw [hl] at hv ho h1 h3
  exact ⟨va, vc, es, ⟨hv, ho, hs, ha⟩, hl, h3, h4, h1, h2⟩

theorem ml_says {es : List Ml} {E : List Ma} (hs : es.map Ml.says = E) (k : Nat) : E.getD k nilMa = (es.getD k nilMl).says := by
  rw [← hs, says_getD]

set_option maxRecDepth 100000 in
set_option maxHeartbeats 1000000 in
/-- has. -/
theorem has_any {N : Nat} {S : Nat → Prop} {w : World} {b : Nat} {P : PN} (h : Nt N S w b P) (a : Int) :
    Calls Try.prog 51 #[.pointer (some ⟨b, 0, none⟩), .int .i64 a] w fun e w' => e = .returned (.bool (P.has a)) ∧ w' = w := by
  obtain ⟨v, es, hm, -, -⟩ := h.at_
  obtain ⟨c0, -⟩ := cell_net hm.blk h.ok.len
  have hbw := h.inn _ h.Sb
  unfold PN.has
  clear h hm
  by_cases h1 : 1 ≤ a
  · have h1' : decide (1 ≤ a) = true := by simpa using h1
    go_enter Try.func51, Try.ntmps51
    go_wp2
    go_ret
    exact ⟨by simp [h1], rfl⟩
  · have h1' : decide (1 ≤ a) = false := by simpa using h1
    go_enter Try.func51, Try.ntmps51
    go_wp2
    go_ret
    exact ⟨by simp, rfl⟩

set_option maxRecDepth 100000 in
set_option maxHeartbeats 1000000 in
/-- two. -/
theorem two_any {N : Nat} {S : Nat → Prop} {w : World} {b : Nat} {P : PN} (h : Nt N S w b P) (x y : Int) :
    Calls Try.prog 43 #[.pointer (some ⟨b, 0, none⟩), .int .i64 x, .int .i64 y] w fun e w' => e = .returned (.bool (P.two x y)) ∧ w' = w := by
  have HX : Hid (Calls _ _ _ _ _) := has_any h x
  have HY : Hid (Calls _ _ _ _ _) := has_any h y
  unfold PN.two
  clear h
  generalize P.has x = hx at *
  generalize P.has y = hy at *
  cases hx
  · go_enter Try.func43, Try.ntmps43
    go_wp2_with fail
    refine HX.out.mono ?_
    rintro e w1 ⟨rfl, hw⟩
    subst w1
    go_wp2
    go_ret
    exact ⟨by simp, rfl⟩
  · cases hy
    · go_enter Try.func43, Try.ntmps43
      go_wp2_with fail
      refine HX.out.mono ?_
      rintro e w1 ⟨rfl, hw⟩
      subst w1
      go_wp2_with fail
      refine HY.out.mono ?_
      rintro e w1 ⟨rfl, hw⟩
      subst w1
      go_wp2
      go_ret
      exact ⟨by simp, rfl⟩
    · go_enter Try.func43, Try.ntmps43
      go_wp2_with fail
      refine HX.out.mono ?_
      rintro e w1 ⟨rfl, hw⟩
      subst w1
      go_wp2_with fail
      refine HY.out.mono ?_
      rintro e w1 ⟨rfl, hw⟩
      subst w1
      go_wp2
      go_ret
      exact ⟨by simp, rfl⟩

set_option maxRecDepth 100000 in
set_option maxHeartbeats 1000000 in
/-- Linked. -/
theorem Linked_any {N : Nat} {S : Nat → Prop} {w : World} {b : Nat} {P : PN} (h : Nt N S w b P) (x y : Int) :
    Calls Try.prog 26 #[.pointer (some ⟨b, 0, none⟩), .int .i64 x, .int .i64 y] w fun e w' => e = .returned (.bool (P.lnk x y)) ∧ w' = w := by
  have HT : Hid (Calls _ _ _ _ _) := two_any h x y
  obtain ⟨v, es, hm, -, -⟩ := h.at_
  obtain ⟨-, cl, -⟩ := cell_net hm.blk h.ok.len
  have hbw := h.inn _ h.Sb
  unfold PN.lnk
  by_cases ht : P.two x y = true
  · obtain ⟨a1, a2, b1, b2, hne⟩ := PN.two_of h.ok ht
    rw [ht] at HT ⊢
    obtain ⟨i, rfl⟩ : ∃ i : Nat, x = (i : Int) := ⟨x.toNat, by omega⟩
    obtain ⟨j, rfl⟩ : ∃ j : Nat, y = (j : Int) := ⟨y.toNat, by omega⟩
    have c1 := cl (8 * i + j) (by omega)
    have e : lk P.L (i : Int) (j : Int) = P.L.getD (8 * i + j) false := rfl
    rw [e]
    generalize P.L.getD (8 * i + j) false = u at *
    have i1 : (i : Int) < 8 := by omega
    have j1 : (j : Int) < 8 := by omega
    have i0 : (0 : Int) ≤ (i : Int) := by omega
    have j0 : (0 : Int) ≤ (j : Int) := by omega
    have c2 : w.cell? ⟨b, 1 + i * 8 + j, none⟩ = some (.bool u) := by rw [← c1]; congr 2; omega
    clear h hm cl ht c1 hne a1 a2 b1 b2
    go_enter Try.func26, Try.ntmps26
    go_wp2_with fail
    refine HT.out.mono ?_
    rintro e w1 ⟨rfl, hw⟩
    subst w1
    go_wp2
    go_ret
    exact ⟨by simp, rfl⟩
  · have ht' : P.two x y = false := by simpa using ht
    rw [ht'] at HT ⊢
    clear h hm cl ht ht'
    go_enter Try.func26, Try.ntmps26
    go_wp2_with fail
    refine HT.out.mono ?_
    rintro e w1 ⟨rfl, hw⟩
    subst w1
    go_wp2
    go_ret
    exact ⟨by simp, rfl⟩
end Go.Proofs.Ytefbfjlmhfmiiaa
