/-
  NetNothing: what stays true.
-/
import Derived.Test.YtefbfjlmhfmiiaaCm
import Derived.Test.YtefbfjlmhfmiiaaFi
namespace Go.Proofs.Ytefbfjlmhfmiiaa
open Go.RowKit
set_option linter.unusedVariables false

/-- It was sent so. -/
def OrgOf (s : Ml) (m : Ma) : Prop := s.f = mF m ∧ s.t = mT m ∧ ((mS m = false ∧ mD m = s.d) ∨ (mS m = true ∧ ∃ q, q / 8 < s.d.length ∧ mD m = flipD s.d q))
def Org (sl : List Ml) (m : Ma) : Prop := ∃ s ∈ sl, OrgOf s m

/-- What holds of a network. -/
structure Inv (P : PN) (sl : List Ml) : Prop where
  org : ∀ m ∈ P.E, Org sl m
  num : ∀ m ∈ P.E, 1 ≤ mN m ∧ mN m ≤ P.k
  nod : (P.E.map mN).Nodup

/-- How a network may turn: as many mails or fewer, or one more at the end. -/
def Grow (P P' : PN) : Prop := (P'.k = P.k ∧ P'.E.length ≤ P.E.length) ∨ (P'.k = P.k + 1 ∧ P'.E.length = P.E.length + 1 ∧ mN (P'.E.getD P.E.length nilMa) = P.k + 1)

theorem Inv.sub {P P' : PN} {sl : List Ml} (h : Inv P sl) (hk : P'.k = P.k) (hE : P'.E.Sublist P.E) : Inv P' sl ∧ Grow P P' :=
  ⟨⟨fun m hm => h.org m (hE.subset hm), fun m hm => by rw [hk]; exact h.num m (hE.subset hm), h.nod.sublist (hE.map mN)⟩, .inl ⟨hk, hE.length_le⟩⟩
theorem Inv.take {P : PN} {sl : List Ml} (h : Inv P sl) (i : Int) : Inv (P.take i) sl ∧ Grow P (P.take i) := by
  refine h.sub ?_ ?_
  · unfold PN.take; split <;> rfl
  · unfold PN.take
    split
    · exact List.eraseIdx_sublist _ _
    · exact List.Sublist.refl _
theorem Inv.clear {P : PN} {sl : List Ml} (h : Inv P sl) (to : Int) : Inv (P.clear to) sl ∧ Grow P (P.clear to) := h.sub rfl List.filter_sublist
theorem Inv.link {P : PN} {sl : List Ml} (h : Inv P sl) (a b : Int) (u : Bool) : Inv (P.link a b u) sl ∧ Grow P (P.link a b u) :=
  h.sub (PN.link_k _ _ _ _) (by rw [PN.link_E]; exact List.Sublist.refl _)
theorem Inv.move {P : PN} {sl : List Ml} (h : Inv P sl) (i t : Int) : Inv (P.move i t) sl ∧ Grow P (P.move i t) := by
  unfold PN.move
  split
  · rename_i hm
    have ha : P.at i = true := by simp [PN.mov] at hm; exact hm.1
    have hp := moveE_perm P.E t.toNat (PN.at_of ha).2.1
    exact ⟨⟨fun m hm => h.org m (hp.mem_iff.1 hm), fun m hm => h.num m (hp.mem_iff.1 hm), ((hp.map mN).nodup_iff).2 h.nod⟩, .inl ⟨rfl, Nat.le_of_eq hp.length_eq⟩⟩
  · exact ⟨h, .inl ⟨rfl, Nat.le_refl _⟩⟩
theorem Inv.spoil {P : PN} {sl : List Ml} (h : Inv P sl) (i bit : Int) : Inv (P.spoil i bit) sl ∧ Grow P (P.spoil i bit) := by
  unfold PN.spoil
  split
  · rename_i hs
    simp only [PN.spl, Bool.and_eq_true, decide_eq_true_eq, Bool.not_eq_true'] at hs
    obtain ⟨⟨⟨ha, hs1⟩, hb⟩, hq⟩ := hs
    have hi := (PN.at_of ha).2.1
    have hmem := getD_memA hi
    have hn : mN (spoilM (P.E.getD i.toNat nilMa) bit.toNat) = mN (P.E.getD i.toNat nilMa) := rfl
    refine ⟨⟨fun m hm => ?_, fun m hm => ?_, ?_⟩, .inl ⟨rfl, by simp⟩⟩
    · rcases List.mem_or_eq_of_mem_set hm with hm | rfl
      · exact h.org m hm
      · obtain ⟨s, hs2, e1, e2, e3⟩ := h.org _ hmem
        refine ⟨s, hs2, e1, e2, .inr ⟨rfl, bit.toNat, ?_, ?_⟩⟩
        · rcases e3 with e3 | e3
          · rw [← e3.2]; exact hq
          · rw [hs1] at e3; simp at e3
        · rcases e3 with e3 | e3
          · rw [← e3.2]; rfl
          · rw [hs1] at e3; simp at e3
    · rcases List.mem_or_eq_of_mem_set hm with hm | rfl
      · exact h.num m hm
      · exact h.num (P.E.getD i.toNat nilMa) hmem
    · show ((P.E.set i.toNat _).map mN).Nodup
      rw [set_same mN P.E i.toNat _ nilMa hn]
      exact h.nod
  · exact ⟨h, .inl ⟨rfl, Nat.le_refl _⟩⟩
theorem Inv.add {P : PN} {sl sl' : List Ml} (h : Inv P sl) (f t : Int) (d : List UInt8) (s : Bool) (hs : ∀ x ∈ sl, x ∈ sl') (hr : P.E.length < 2000) (hk : 0 ≤ P.k) (ho : Org sl' (P.k + 1, f, t, d, s)) : Inv (P.add f t d s) sl' ∧ Grow P (P.add f t d s) := by
  unfold PN.add
  rw [if_pos hr]
  refine ⟨⟨fun m hm => ?_, fun m hm => ?_, ?_⟩, .inr ⟨rfl, by simp, ?_⟩⟩
  · rcases List.mem_append.1 hm with hm | hm
    · obtain ⟨x, hx, r⟩ := h.org m hm
      exact ⟨x, hs x hx, r⟩
    · obtain rfl := List.mem_singleton.1 hm; exact ho
  · show 1 ≤ mN m ∧ mN m ≤ P.k + 1
    rcases List.mem_append.1 hm with hm | hm
    · have := h.num m hm; omega
    · obtain rfl := List.mem_singleton.1 hm
      show 1 ≤ P.k + 1 ∧ P.k + 1 ≤ P.k + 1
      omega
  · show ((P.E ++ [(P.k + 1, f, t, d, s)]).map mN).Nodup
    rw [List.map_append, List.nodup_append]
    refine ⟨h.nod, by simp, fun x hx y hy => ?_⟩
    obtain ⟨m, hm, rfl⟩ := List.mem_map.1 hx
    have h1 := h.num m hm
    have h2 : y = P.k + 1 := by simpa [mN] using hy
    omega
  · show mN ((P.E ++ [(P.k + 1, f, t, d, s)]).getD P.E.length nilMa) = P.k + 1
    rw [List.getD_eq_getElem?_getD, List.getElem?_append_right (Nat.le_refl _)]
    simp [mN]
theorem Inv.same {P : PN} {sl sl' : List Ml} (h : Inv P sl) (hs : ∀ x ∈ sl, x ∈ sl') : Inv P sl' := ⟨fun m hm => by obtain ⟨x, hx, r⟩ := h.org m hm; exact ⟨x, hs x hx, r⟩, h.num, h.nod⟩
theorem Inv.copy {P : PN} {sl : List Ml} (h : Inv P sl) (hk : 0 ≤ P.k) (i : Int) : Inv (P.copy i) sl ∧ Grow P (P.copy i) := by
  unfold PN.copy
  split
  · rename_i ha
    have hi := (PN.at_of ha).2.1
    by_cases hr : P.E.length < 2000
    · refine h.add _ _ _ _ (fun x hx => hx) hr hk ?_
      obtain ⟨s, hs, e1, e2, e3⟩ := h.org _ (getD_memA hi)
      exact ⟨s, hs, e1, e2, e3⟩
    · unfold PN.add
      rw [if_neg hr]
      exact ⟨h, .inl ⟨rfl, Nat.le_refl _⟩⟩
  · exact ⟨h, .inl ⟨rfl, Nat.le_refl _⟩⟩
theorem PN.snd_of {P : PN} {f t : Int} {d : List UInt8} (h : P.snd f t = true) : P.E.length < 2000 ∧ P.send f t d = P.add f t d false := by
  unfold PN.snd at h
  simp only [Bool.and_eq_true, decide_eq_true_eq] at h
  refine ⟨h.2, ?_⟩
  unfold PN.send
  rw [if_pos h.1]
theorem PN.snd_no {P : PN} {f t : Int} {d : List UInt8} (h : P.snd f t = false) : P.send f t d = P := by
  unfold PN.snd at h
  unfold PN.send
  by_cases hl : P.lnk f t = true
  · rw [if_pos hl]
    unfold PN.add
    rw [hl] at h
    rw [if_neg (by simpa using h)]
  · rw [if_neg hl]

/-- The network, and what was sent. -/
structure NS (N : Nat) (w wr : World) (b : Nat) (rv : Value) (S : Nat → Prop) (P : PN) (sl : List Ml) : Prop where
  nt : Nt N S wr b P
  row : MlsOw 41 N wr rv sl
  ap1 : ∀ g, rv.ownBlock = some g → ¬ S g
  ap2 : ∀ e ∈ sl, ∀ g, e.x.ownBlock = some g → ¬ S g
  bel : Below N w wr
  inv : Inv P sl
theorem NS.below {N : Nat} {w wr w' : World} {b : Nat} {rv : Value} {S : Nat → Prop} {P : PN} {sl : List Ml} (h : NS N w wr b rv S P sl) (hN : N ≤ w.heap.size) (hB : Below wr.heap.size wr w') : NS N w w' b rv S P sl :=
  ⟨h.nt.below hB, h.row.below hB, h.ap1, h.ap2, h.bel.trans (hB.mono (Nat.le_trans hN h.bel.size)), h.inv⟩
theorem NS.net {N : Nat} {w wr w' : World} {b : Nat} {rv : Value} {S : Nat → Prop} {P P' : PN} {sl : List Ml} (h : NS N w wr b rv S P sl) (hN : N ≤ w.heap.size) (hT : NTh N S wr w' b P') (hI : Inv P' sl) : NS N w w' b rv (grew S wr w') P' sl :=
  ⟨hT.q, h.row.out hT.out (fun g hg => h.ap1 g hg) (fun e he g hg => h.ap2 e he g hg), fun g hg hs => hs.elim (h.ap1 g hg) (fun h' => by have := (h.row.lt hg).2; omega), fun e he g hg hs => hs.elim (h.ap2 e he g hg) (fun h' => by have := ((h.row.dat e he).lt hg).2; omega), h.bel.trans (hT.bel (Nat.le_trans hN h.bel.size)), hI⟩
/-- One more was sent. -/
theorem NS.sent {N : Nat} {w wr w2 w4 : World} {b : Nat} {rv rv' : Value} {S : Nat → Prop} {P P' : PN} {sl : List Ml} {ob : Obj} {e : Ml} (h : NS N w wr b rv S P sl) (hN : N ≤ w.heap.size) (hB2 : Below wr.heap.size wr w2) (hd : Ow wr.heap.size w2 e.x e.d) (hr : w4.ownsRow N 41 5 rv' (sl.length + 1) (mlCells sl ++ mlCells [e])) (hg : (w2.alloc ob).grownBy w4 rv.ownBlock) (hv : rv'.ownBlock = rv.ownBlock ∨ rv'.ownBlock = some (w2.alloc ob).heap.size) (hI : Inv P (sl ++ [e])) : NS N w w4 b rv' S P (sl ++ [e]) := by
  have hwz := h.bel.size
  have hz2 := hB2.size
  have hr2 := (h.row.below hB2).alloc ob
  have hO : Out (fun g => rv.ownBlock = some g) wr w4 := ((Out.of_below hB2).alloc ob).trans (Out.grown hg (X := fun g => rv.ownBlock = some g) (fun j hj => hj)) (fun _ hi _ => hi)
  have hrow : MlsOw 41 N w4 rv' (sl ++ [e]) := hr2.app (by decide) (fun x hx => by obtain rfl := List.mem_singleton.1 hx; exact (hd.base (by omega)).alloc ob) (by simpa using hr) hg
  refine ⟨h.nt.out hO (fun g hs hg' => h.ap1 g hg' hs), hrow, fun g hg' hs => ?_, fun x hx g hg' hs => ?_, ?_, hI⟩
  · rcases hv with e1 | e1
    · rw [e1] at hg'; exact h.ap1 g hg' hs
    · rw [e1] at hg'
      cases hg'
      have := h.nt.inn _ hs
      rw [World.size_alloc] at this
      omega
  · rcases List.mem_append.1 hx with hx | hx
    · exact h.ap2 x hx g hg' hs
    · obtain rfl := List.mem_singleton.1 hx
      have h1 := (hd.lt hg').1
      have h2 := h.nt.inn _ hs
      omega
  · exact h.bel.trans (hO.below (by omega) (fun g hg' => (h.row.lt hg').1))

theorem OrgOf.comes {s : Ml} {m : Ml} (h : OrgOf s m.says) : ComesOf s m := by
  obtain ⟨e1, e2, e3⟩ := h
  have e1' : s.f = m.f := e1
  have e2' : s.t = m.t := e2
  rcases e3 with ⟨e3, e4⟩ | ⟨e3, q, hq, e4⟩
  · have e4' : m.d = s.d := e4
    exact ⟨e1', e2', by rw [e4'], .inl ⟨e3, by rw [e4']; exact unl_same _ _⟩⟩
  · have e4' : m.d = flipD s.d q := e4
    exact ⟨e1', e2', by rw [e4', flipD_len], .inr ⟨e3, by rw [e4', unl_flip _ _ hq, if_pos hq]⟩⟩
theorem Org.at {sl : List Ml} {m : Ml} (h : Org sl m.says) : ∃ i, i < sl.length ∧ ComesOf (sl.getD i nilMl) m := by
  obtain ⟨s, hs, h⟩ := h
  obtain ⟨i, hi, rfl⟩ := List.mem_iff_getElem.1 hs
  refine ⟨i, hi, ?_⟩
  rw [List.getD_eq_getElem?_getD, List.getElem?_eq_getElem hi]
  exact h.comes
end Go.Proofs.Ytefbfjlmhfmiiaa
