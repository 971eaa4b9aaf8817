/-
  The document's set: a field by its letter.
-/
import Derived.Test.YtbckogojnjmjcaaGreatDoorR1
namespace Go.Proofs.YtbckogojnjmjcaaGreatDoor
open Go.RowKit Go.Shelf

/-- An act in a block, the document's. -/
def RcAt (W : World) (b : Nat) (a : Ac) : Prop := W.heap[b]? = some (.cells a.cells 37)
theorem RcAt.out {X : Nat → Prop} {W W' : World} {b : Nat} {a : Ac} (h : RcAt W b a) (hO : Out X W W') (hx : ¬ X b) : RcAt W' b a := (hO.block b (Array.getElem?_eq_some_iff.1 h).1 hx).trans h
theorem RcAt.below {W W' : World} {b : Nat} {a : Ac} (h : RcAt W b a) (hO : Below W.heap.size W W') : RcAt W' b a := (hO.block b (Array.getElem?_eq_some_iff.1 h).1).trans h
theorem RcAt.lt {W : World} {b : Nat} {a : Ac} (h : RcAt W b a) : b < W.heap.size := (Array.getElem?_eq_some_iff.1 h).1
theorem RcAt.cell {W : World} {b : Nat} {a : Ac} (h : RcAt W b a) (j : Nat) : W.cell? ⟨b, j, none⟩ = a.cells[j]? := by unfold RcAt at h; simp only [World.cell?, h]; rfl
theorem RcAt.frz {W : World} {b : Nat} {a : Ac} (h : RcAt W b a) (j : Nat) : W.frozen? ⟨b, j, none⟩ = false := by unfold RcAt at h; simp [World.frozen?, h]
theorem RcAt.set {W : World} {b : Nat} {a a' : Ac} (h : RcAt W b a) (o : Nat) (u : Value) (e : a.cells.setIfInBounds o u = a'.cells) : RcAt (W.setCell ⟨b, o, none⟩ u) b a' := by
  unfold RcAt
  rw [← e]
  exact heap_set h o u
theorem RcAt.cells {W : World} {b : Nat} {a : Ac} (h : RcAt W b a) : W.cell? ⟨b, 0, none⟩ = some (.int .i64 a.kind) ∧ W.cell? ⟨b, 1, none⟩ = some (.int .i64 a.node) ∧ W.cell? ⟨b, 2, none⟩ = some (.int .i64 a.client) ∧ W.cell? ⟨b, 3, none⟩ = some (.int .i64 a.n) ∧ W.cell? ⟨b, 4, none⟩ = some (.int .i64 a.m) ∧ W.cell? ⟨b, 5, none⟩ = some (.int .i64 a.op) ∧
    W.cell? ⟨b, 6, none⟩ = some (.string ⟨a.key.toArray⟩) ∧ W.cell? ⟨b, 7, none⟩ = some (.string ⟨a.val.toArray⟩) ∧ W.cell? ⟨b, 8, none⟩ = some (.string ⟨a.old.toArray⟩) :=
  ⟨h.cell 0, h.cell 1, h.cell 2, h.cell 3, h.cell 4, h.cell 5, h.cell 6, h.cell 7, h.cell 8⟩
/-- What set answers. -/
def RsR (p : Pc) (a : Ac) (s : Bs) (b : Nat) (e : Ending) (w' : World) : Prop := match p.rd a s with
  | .error k => e = .returned (.int .i64 (k : Int)) ∧ RcAt w' b a
  | .ok a' => e = .returned (.int .i64 0) ∧ RcAt w' b a'
set_option maxRecDepth 100000 in
theorem rset_key (a : Ac) (s : Bs) (_hl : s.length ≤ 1000000) (b : Nat) (w : World) (hA : RcAt w b a) :
    Calls Tryz.prog 48 #[.pointer (some ⟨b, 0, none⟩), .int .u8 107, .string ⟨s.toArray⟩] w fun e w' => RsR .key a s b e w' ∧ Out (fun i => i = b) w w' := by
  have hc : w.cell? ⟨b, 6, none⟩ = some (.string ⟨a.key.toArray⟩) := hA.cell 6
  have hfr := hA.frz 6
  have HA : Hid (RcAt w b a) := hA
  clear hA
  go_enter Tryz.func48, Tryz.ntmps48
  go_wp2
  go_ret
  exact ⟨⟨rfl, HA.out.set 6 _ rfl⟩, Out.put (X := fun i => i = b) (Out.refl _ w) rfl⟩
set_option maxRecDepth 100000 in
theorem rset_val (a : Ac) (s : Bs) (_hl : s.length ≤ 1000000) (b : Nat) (w : World) (hA : RcAt w b a) :
    Calls Tryz.prog 48 #[.pointer (some ⟨b, 0, none⟩), .int .u8 118, .string ⟨s.toArray⟩] w fun e w' => RsR .val a s b e w' ∧ Out (fun i => i = b) w w' := by
  have hc : w.cell? ⟨b, 7, none⟩ = some (.string ⟨a.val.toArray⟩) := hA.cell 7
  have hfr := hA.frz 7
  have HA : Hid (RcAt w b a) := hA
  clear hA
  go_enter Tryz.func48, Tryz.ntmps48
  go_wp2
  go_ret
  exact ⟨⟨rfl, HA.out.set 7 _ rfl⟩, Out.put (X := fun i => i = b) (Out.refl _ w) rfl⟩
set_option maxRecDepth 100000 in
theorem rset_old (a : Ac) (s : Bs) (_hl : s.length ≤ 1000000) (b : Nat) (w : World) (hA : RcAt w b a) :
    Calls Tryz.prog 48 #[.pointer (some ⟨b, 0, none⟩), .int .u8 111, .string ⟨s.toArray⟩] w fun e w' => RsR .old a s b e w' ∧ Out (fun i => i = b) w w' := by
  have hc : w.cell? ⟨b, 8, none⟩ = some (.string ⟨a.old.toArray⟩) := hA.cell 8
  have hfr := hA.frz 8
  have HA : Hid (RcAt w b a) := hA
  clear hA
  go_enter Tryz.func48, Tryz.ntmps48
  go_wp2
  go_ret
  exact ⟨⟨rfl, HA.out.set 8 _ rfl⟩, Out.put (X := fun i => i = b) (Out.refl _ w) rfl⟩
set_option maxRecDepth 100000 in
theorem rset_node (a : Ac) (s : Bs) (hl : s.length ≤ 1000000) (b : Nat) (w : World) (hA : RcAt w b a) :
    Calls Tryz.prog 48 #[.pointer (some ⟨b, 0, none⟩), .int .u8 78, .string ⟨s.toArray⟩] w fun e w' => RsR .node a s b e w' ∧ Out (fun i => i = b) w w' := by
  have hc : w.cell? ⟨b, 1, none⟩ = some (.int .i64 a.node) := hA.cell 1
  have hfr := hA.frz 1
  have HA : Hid (RcAt w b a) := hA
  have HN := rnumber_any s hl w
  clear hA
  go_enter Tryz.func48, Tryz.ntmps48
  go_wp2_with fail
  refine HN.mono ?_
  rintro e w1 ⟨⟨n, hn, rfl⟩ | ⟨hn, rfl⟩, hw⟩
  · subst hw
    have HR : Hid (numOf s = some n) := numOf_some.2 hn
    clear hn
    go_wp2
    go_ret
    refine ⟨?_, Out.put (X := fun i => i = b) (Out.refl _ _) rfl⟩
    unfold RsR
    simp only [Pc.rd, HR.out]
    exact ⟨rfl, HA.out.set 1 _ rfl⟩
  · subst hw
    have HR : Hid (numOf s = none) := numOf_none hn
    clear hn
    go_wp2
    go_ret
    refine ⟨?_, Out.refl _ _⟩
    unfold RsR
    simp only [Pc.rd, HR.out]
    exact ⟨rfl, HA.out⟩
set_option maxRecDepth 100000 in
theorem rset_client (a : Ac) (s : Bs) (hl : s.length ≤ 1000000) (b : Nat) (w : World) (hA : RcAt w b a) :
    Calls Tryz.prog 48 #[.pointer (some ⟨b, 0, none⟩), .int .u8 67, .string ⟨s.toArray⟩] w fun e w' => RsR .client a s b e w' ∧ Out (fun i => i = b) w w' := by
  have hc : w.cell? ⟨b, 2, none⟩ = some (.int .i64 a.client) := hA.cell 2
  have hfr := hA.frz 2
  have HA : Hid (RcAt w b a) := hA
  have HN := rnumber_any s hl w
  clear hA
  go_enter Tryz.func48, Tryz.ntmps48
  go_wp2_with fail
  refine HN.mono ?_
  rintro e w1 ⟨⟨n, hn, rfl⟩ | ⟨hn, rfl⟩, hw⟩
  · subst hw
    have HR : Hid (numOf s = some n) := numOf_some.2 hn
    clear hn
    go_wp2
    go_ret
    refine ⟨?_, Out.put (X := fun i => i = b) (Out.refl _ _) rfl⟩
    unfold RsR
    simp only [Pc.rd, HR.out]
    exact ⟨rfl, HA.out.set 2 _ rfl⟩
  · subst hw
    have HR : Hid (numOf s = none) := numOf_none hn
    clear hn
    go_wp2
    go_ret
    refine ⟨?_, Out.refl _ _⟩
    unfold RsR
    simp only [Pc.rd, HR.out]
    exact ⟨rfl, HA.out⟩
set_option maxRecDepth 100000 in
theorem rset_n (a : Ac) (s : Bs) (hl : s.length ≤ 1000000) (b : Nat) (w : World) (hA : RcAt w b a) :
    Calls Tryz.prog 48 #[.pointer (some ⟨b, 0, none⟩), .int .u8 110, .string ⟨s.toArray⟩] w fun e w' => RsR .n a s b e w' ∧ Out (fun i => i = b) w w' := by
  have hc : w.cell? ⟨b, 3, none⟩ = some (.int .i64 a.n) := hA.cell 3
  have hfr := hA.frz 3
  have HA : Hid (RcAt w b a) := hA
  have HN := rnumber_any s hl w
  clear hA
  go_enter Tryz.func48, Tryz.ntmps48
  go_wp2_with fail
  refine HN.mono ?_
  rintro e w1 ⟨⟨n, hn, rfl⟩ | ⟨hn, rfl⟩, hw⟩
  · subst hw
    have HR : Hid (numOf s = some n) := numOf_some.2 hn
    clear hn
    go_wp2
    go_ret
    refine ⟨?_, Out.put (X := fun i => i = b) (Out.refl _ _) rfl⟩
    unfold RsR
    simp only [Pc.rd, HR.out]
    exact ⟨rfl, HA.out.set 3 _ rfl⟩
  · subst hw
    have HR : Hid (numOf s = none) := numOf_none hn
    clear hn
    go_wp2
    go_ret
    refine ⟨?_, Out.refl _ _⟩
    unfold RsR
    simp only [Pc.rd, HR.out]
    exact ⟨rfl, HA.out⟩
set_option maxRecDepth 100000 in
theorem rset_m (a : Ac) (s : Bs) (hl : s.length ≤ 1000000) (b : Nat) (w : World) (hA : RcAt w b a) :
    Calls Tryz.prog 48 #[.pointer (some ⟨b, 0, none⟩), .int .u8 109, .string ⟨s.toArray⟩] w fun e w' => RsR .m a s b e w' ∧ Out (fun i => i = b) w w' := by
  have hc : w.cell? ⟨b, 4, none⟩ = some (.int .i64 a.m) := hA.cell 4
  have hfr := hA.frz 4
  have HA : Hid (RcAt w b a) := hA
  have HN := rnumber_any s hl w
  clear hA
  go_enter Tryz.func48, Tryz.ntmps48
  go_wp2_with fail
  refine HN.mono ?_
  rintro e w1 ⟨⟨n, hn, rfl⟩ | ⟨hn, rfl⟩, hw⟩
  · subst hw
    have HR : Hid (numOf s = some n) := numOf_some.2 hn
    clear hn
    go_wp2
    go_ret
    refine ⟨?_, Out.put (X := fun i => i = b) (Out.refl _ _) rfl⟩
    unfold RsR
    simp only [Pc.rd, HR.out]
    exact ⟨rfl, HA.out.set 4 _ rfl⟩
  · subst hw
    have HR : Hid (numOf s = none) := numOf_none hn
    clear hn
    go_wp2
    go_ret
    refine ⟨?_, Out.refl _ _⟩
    unfold RsR
    simp only [Pc.rd, HR.out]
    exact ⟨rfl, HA.out⟩
set_option maxRecDepth 100000 in
theorem rset_pick (a : Ac) (s : Bs) (_hl : s.length ≤ 1000000) (b : Nat) (w : World) (hA : RcAt w b a) :
    Calls Tryz.prog 48 #[.pointer (some ⟨b, 0, none⟩), .int .u8 112, .string ⟨s.toArray⟩] w fun e w' => RsR .pick a s b e w' ∧ Out (fun i => i = b) w w' := by
  have HP := rpicks_any w
  have HA : Hid (RcAt w b a) := hA
  have hb : b < w.heap.size := hA.lt
  clear hA
  go_enter Tryz.func48, Tryz.ntmps48
  go_wp2_with fail
  refine HP.mono ?_
  rintro e w1 ⟨g, rfl, hg, hS, hB1⟩
  have HB1 : Hid (Below w.heap.size w w1) := hB1
  have HA1 : Hid (RcAt w1 b a) := HA.out.below hB1
  have HS : Hid (StrAt w1 g picksL) := hS
  clear hS hB1 HA HP
  go_wp2
  go_loopw [8] (fun i wr => ∃ k : Nat, i = .int .i64 k ∧ k ≤ 9 ∧ wr = w1 ∧ Hid (pickOf s = (idxOfL (picksL.drop k) s).map fun i => 1 + ((k + i : Nat) : Int))) (fun i _ => 9 - (intOf i).toNat)
  case atStart => exact ⟨0, rfl, by omega, rfl, by show _ = _; unfold pickOf; rw [List.drop_zero]; cases idxOfL picksL s with | none => rfl | some i => simp⟩
  case round =>
    obtain ⟨k, rfl, hk, hw, HPK⟩ := hrel
    subst hw
    by_cases hlt : k < 9
    · have hck := HS.out k (by simpa [picksL] using hlt)
      have hdk : picksL.drop k = picksL.getD k [] :: picksL.drop (k + 1) := by
        rw [List.getD_eq_getElem?_getD, List.getElem?_eq_getElem (by simpa [picksL] using hlt)]
        exact List.drop_eq_getElem_cons _
      have HDK : Hid _ := hdk
      clear hdk
      cases hq : (picksL.getD k [] == s) with
      | true =>
        have HR : Hid (pickOf s = some (1 + (k : Int))) := by
          show _ = _
          rw [HPK.out, HDK.out]
          have : picksL.getD k [] = s := by simpa using hq
          rw [idxOfL, if_pos this]
          simp
        have hc := HA1.out.cell 3
        have hc' : wr.cell? ⟨b, 3, none⟩ = some (.int .i64 a.n) := hc
        have hfr := HA1.out.frz 3
        generalize picksL.getD k [] = pk at *
        clear hc
        go_wp2
        go_ret
        refine ⟨?_, Out.put (X := fun i => i = b) (Out.of_below HB1.out) rfl⟩
        unfold RsR
        simp only [Pc.rd, HR.out]
        refine ⟨rfl, HA1.out.set 3 _ ?_⟩
        show _ = _
        simp [Ac.cells]
        omega
      | false =>
        have HN : Hid (pickOf s = (idxOfL (picksL.drop (k + 1)) s).map fun i => 1 + ((k + 1 + i : Nat) : Int)) := by
          show _ = _
          rw [HPK.out, HDK.out]
          have : picksL.getD k [] ≠ s := by simpa using hq
          rw [idxOfL, if_neg this]
          cases idxOfL (picksL.drop (k + 1)) s with
          | none => rfl
          | some i => simp; omega
        generalize picksL.getD k [] = pk at *
        go_wp2
        exact ⟨⟨k + 1, by simp, by omega, trivial, HN.out⟩, by simp [intOf]; omega⟩
    · have hke : k = 9 := by omega
      have HR : Hid (pickOf s = none) := by
        show _ = _
        rw [HPK.out, hke]
        rfl
      clear hke
      go_wp2
      go_ret
      refine ⟨?_, Out.of_below HB1.out⟩
      unfold RsR
      simp only [Pc.rd, HR.out]
      exact ⟨rfl, HA1.out⟩
theorem rset_any (p : Pc) (a : Ac) (s : Bs) (hl : s.length ≤ 1000000) (b : Nat) (w : World) (hA : RcAt w b a) :
    Calls Tryz.prog 48 #[.pointer (some ⟨b, 0, none⟩), .int .u8 (p.letter.toNat : Int), .string ⟨s.toArray⟩] w fun e w' => RsR p a s b e w' ∧ Out (fun i => i = b) w w' := by
  cases p
  · exact rset_node a s hl b w hA
  · exact rset_client a s hl b w hA
  · exact rset_n a s hl b w hA
  · exact rset_m a s hl b w hA
  · exact rset_pick a s hl b w hA
  · exact rset_key a s hl b w hA
  · exact rset_val a s hl b w hA
  · exact rset_old a s hl b w hA
end Go.Proofs.YtbckogojnjmjcaaGreatDoor
