/-
  Save: its steps, one behind the other.
-/
import Derived.Test.YtadajbdmlmickaaGreatDoorSx
import Derived.Test.YtadajbdmlmickaaGreatDoorFm
import Derived.Test.YtadajbdmlmickaaGreatDoorNmo
import Derived.Laws.EntriesVeiled
import Derived.Deep.RegionHeld3
namespace Go.Proofs.YtadajbdmlmickaaGreatDoor
open Go.RowKit
set_option linter.unusedVariables false

theorem tmp_str : (⟨#[115, 110, 97, 112, 46, 116, 109, 112]⟩ : ByteArray) = ⟨tmpL.toArray⟩ := rfl
theorem tmp_len : tmpL.length ≤ maxLen := by unfold maxLen; simp [tmpL]

theorem Ow.slx {N : Nat} {S : Nat → Prop} {w : World} {a : Option Addr} {cap : Nat} {l : List UInt8} (h : Ow N w (.slice a l.length cap) l) (hS : ∀ g, (Value.slice a l.length cap).ownBlock = some g → ¬ S g) : SlX S w (.slice a l.length cap) l := by
  obtain ⟨a', cap', e, h1, h2, h3⟩ := h.sl (Nat.le_refl _)
  cases e
  refine ⟨a, cap, rfl, h1, h2, h3.imp id ?_⟩
  rintro ⟨b, off, rfl, hb, hc⟩
  exact ⟨b, off, rfl, hS b rfl, hb, hc⟩

section
variable {N : Nat} {S : Nat → Prop} {w V0 V : World} {d X0 X1 X2 : Nat} {q : PD}

theorem sav1 (h : Bx N S w V0 V d q) (hS : ∀ i, S i → i < w.heap.size ∧ N ≤ i) (hN : N ≤ w.heap.size) (hw : w.heap.size ≤ V0.heap.size) (hx : V.heap[X0]? = some (.cells #[.pointer (some ⟨d, 0, none⟩)] 25 (0, 0))) :
    Calls Tryz.prog 58 #[.pointer (some ⟨X0, 0, none⟩)] V fun r w' => r = .returned (.int .i64 ((doRemove q tmpL).1 : Int)) ∧ Bx N S w V0 w' d (doRemove q tmpL).2 := by
  have c0 : V.cell? ⟨X0, 0, none⟩ = some (.pointer (some ⟨d, 0, none⟩)) := by simp [World.cell?, hx]
  have hlt := (Array.getElem?_eq_some_iff.1 hx).1
  have HC : Hid (Calls _ _ _ _ _) := h.op hS hN hw (F := 59) (args := #[.pointer (some ⟨d, 0, none⟩), .string ⟨tmpL.toArray⟩]) (x := doRemove q tmpL) (fun S' hD hN' _ => op_x hD hN' (X := fun p => doRemove p tmpL) (fun k hk _ => remove_any hk tmpL tmp_len))
  obtain ⟨x, hxx⟩ : ∃ x, doRemove q tmpL = x := ⟨_, rfl⟩
  rw [hxx] at HC ⊢
  clear h hx hxx
  go_enter Tryz.func58, Tryz.ntmps58
  go_wp2_with fail
  refine HC.out.mono ?_
  rintro r w' ⟨rfl, hB⟩
  have HB : Hid (Bx N S w V0 w' d x.2) := hB
  clear hB HC
  go_wp2
  go_ret
  exact ⟨rfl, HB.out⟩
theorem sav2 (h : Bx N S w V0 V d q) (hS : ∀ i, S i → i < w.heap.size ∧ N ≤ i) (hN : N ≤ w.heap.size) (hw : w.heap.size ≤ V0.heap.size) (hx : V.heap[X0]? = some (.cells #[.pointer (some ⟨d, 0, none⟩)] 25 (0, 0))) :
    Calls Tryz.prog 60 #[.pointer (some ⟨X0, 0, none⟩)] V fun r w' => r = .returned (.int .i64 ((doCreate q tmpL).1 : Int)) ∧ Bx N S w V0 w' d (doCreate q tmpL).2 := by
  have c0 : V.cell? ⟨X0, 0, none⟩ = some (.pointer (some ⟨d, 0, none⟩)) := by simp [World.cell?, hx]
  have hlt := (Array.getElem?_eq_some_iff.1 hx).1
  have HC : Hid (Calls _ _ _ _ _) := h.op hS hN hw (F := 29) (args := #[.pointer (some ⟨d, 0, none⟩), .string ⟨tmpL.toArray⟩]) (x := doCreate q tmpL) (fun S' hD hN' _ => op_x hD hN' (X := fun p => doCreate p tmpL) (fun k hk _ => create_any hk tmpL tmp_len))
  obtain ⟨x, hxx⟩ : ∃ x, doCreate q tmpL = x := ⟨_, rfl⟩
  rw [hxx] at HC ⊢
  clear h hx hxx
  go_enter Tryz.func60, Tryz.ntmps60
  go_wp2_with fail
  refine HC.out.mono ?_
  rintro r w' ⟨rfl, hB⟩
  have HB : Hid (Bx N S w V0 w' d x.2) := hB
  clear hB HC
  go_wp2
  go_ret
  exact ⟨rfl, HB.out⟩
theorem sav4 (h : Bx N S w V0 V d q) (hS : ∀ i, S i → i < w.heap.size ∧ N ≤ i) (hN : N ≤ w.heap.size) (hw : w.heap.size ≤ V0.heap.size) (hx : V.heap[X0]? = some (.cells #[.pointer (some ⟨d, 0, none⟩)] 25 (0, 0))) :
    Calls Tryz.prog 62 #[.pointer (some ⟨X0, 0, none⟩)] V fun r w' => r = .returned (.int .i64 ((doSync q tmpL).1 : Int)) ∧ Bx N S w V0 w' d (doSync q tmpL).2 := by
  have c0 : V.cell? ⟨X0, 0, none⟩ = some (.pointer (some ⟨d, 0, none⟩)) := by simp [World.cell?, hx]
  have hlt := (Array.getElem?_eq_some_iff.1 hx).1
  have HC : Hid (Calls _ _ _ _ _) := h.op hS hN hw (F := 31) (args := #[.pointer (some ⟨d, 0, none⟩), .string ⟨tmpL.toArray⟩]) (x := doSync q tmpL) (fun S' hD hN' _ => op_x hD hN' (X := fun p => doSync p tmpL) (fun k hk _ => sync_any hk tmpL tmp_len))
  obtain ⟨x, hxx⟩ : ∃ x, doSync q tmpL = x := ⟨_, rfl⟩
  rw [hxx] at HC ⊢
  clear h hx hxx
  go_enter Tryz.func62, Tryz.ntmps62
  go_wp2_with fail
  refine HC.out.mono ?_
  rintro r w' ⟨rfl, hB⟩
  have HB : Hid (Bx N S w V0 w' d x.2) := hB
  clear hB HC
  go_wp2
  go_ret
  exact ⟨rfl, HB.out⟩
theorem sav3 (h : Bx N S w V0 V d q) (hS : ∀ i, S i → i < w.heap.size ∧ N ≤ i) (hN : N ≤ w.heap.size) (hw : w.heap.size ≤ V0.heap.size) (hx : V.heap[X0]? = some (.cells #[.pointer (some ⟨d, 0, none⟩)] 25 (0, 0))) (a : Option Addr) (cap : Nat) (l : List UInt8) (hy : V.heap[X2]? = some (.cells #[.slice a l.length cap] 32 (0, 0))) (hO : Ow w.heap.size V (.slice a l.length cap) l) (ha : ∀ g, (Value.slice a l.length cap).ownBlock = some g → g < V0.heap.size) :
    Calls Tryz.prog 61 #[.pointer (some ⟨X0, 0, none⟩), .pointer (some ⟨X2, 0, none⟩)] V fun r w' => r = .returned (.int .i64 ((doAppend q tmpL l).1 : Int)) ∧ Bx N S w V0 w' d (doAppend q tmpL l).2 := by
  have c0 : V.cell? ⟨X0, 0, none⟩ = some (.pointer (some ⟨d, 0, none⟩)) := by simp [World.cell?, hx]
  have c2 : V.cell? ⟨X2, 0, none⟩ = some (.slice a l.length cap) := by simp [World.cell?, hy]
  have hlt := (Array.getElem?_eq_some_iff.1 hx).1
  have hlt2 := (Array.getElem?_eq_some_iff.1 hy).1
  have HC : Hid (Calls _ _ _ _ _) := h.op hS hN hw (F := 30) (args := #[.pointer (some ⟨d, 0, none⟩), .string ⟨tmpL.toArray⟩, .slice a l.length cap]) (x := doAppend q tmpL l) (fun S' hD hN' hS' => op_x hD hN' (X := fun p => doAppend p tmpL l) (fun k hk _ => append_any hk tmpL tmp_len a cap l (hO.slx (fun g hg hs => by
    rcases hS' g hs with h9 | h9
    · have := (hS g h9).1; have := (World.ownsRow.lt hO g hg).1; omega
    · have := ha g hg; omega))))
  obtain ⟨x, hxx⟩ : ∃ x, doAppend q tmpL l = x := ⟨_, rfl⟩
  rw [hxx] at HC ⊢
  clear h hx hxx hy hO ha
  go_enter Tryz.func61, Tryz.ntmps61
  go_wp2_with fail
  refine HC.out.mono ?_
  rintro r w' ⟨rfl, hB⟩
  have HB : Hid (Bx N S w V0 w' d x.2) := hB
  clear hB HC
  go_wp2
  go_ret
  exact ⟨rfl, HB.out⟩
theorem sav5 (h : Bx N S w V0 V d q) (hS : ∀ i, S i → i < w.heap.size ∧ N ≤ i) (hN : N ≤ w.heap.size) (hw : w.heap.size ≤ V0.heap.size) (hv : ∀ V, Below N w V → Vars V) (hx : V.heap[X0]? = some (.cells #[.pointer (some ⟨d, 0, none⟩)] 25 (0, 0))) (hX0 : w.heap.size ≤ X0 ∧ X0 < V0.heap.size) (i : Nat) (hi : i ≤ 4611686018427387904) (t : Int) (m : Value) (hy : V.heap[X1]? = some (.cells #[.int .i64 (i : Int), .int .i64 t, m] 34 (0, 0))) (hX1 : w.heap.size ≤ X1 ∧ X1 < V0.heap.size) :
    Calls Tryz.prog 63 #[.pointer (some ⟨X0, 0, none⟩), .pointer (some ⟨X1, 0, none⟩)] V fun r w' => r = .returned (.int .i64 ((doRename q tmpL (nmL i)).1 : Int)) ∧ Bx N S w V0 w' d (doRename q tmpL (nmL i)).2 := by
  have c0 : V.cell? ⟨X0, 0, none⟩ = some (.pointer (some ⟨d, 0, none⟩)) := by simp [World.cell?, hx]
  have c1 : V.cell? ⟨X1, 0, none⟩ = some (.int .i64 (i : Int)) := by simp [World.cell?, hy]
  have hlt := (Array.getElem?_eq_some_iff.1 hx).1
  have hlt2 := (Array.getElem?_eq_some_iff.1 hy).1
  have hd : Below V.heap.size V V.drew := below_drewN (Below.refl _ V) 1
  have hbel : Below N w V := (h.thn hS hN hw).bel
  have HNM : Hid (Calls _ _ _ _ _) := nameOf_any i hi V.drew (hv _ (hbel.trans (hd.mono (by have := hbel.size; omega))))
  have HC : Hid (∀ w1, Below V.drew.heap.size V.drew w1 → (w1.cell? ⟨X0, 0, none⟩ = some (.pointer (some ⟨d, 0, none⟩)) ∧ w1.cell? ⟨X1, 0, none⟩ = some (.int .i64 (i : Int))) ∧ Calls Tryz.prog 64 #[.pointer (some ⟨d, 0, none⟩), .string ⟨tmpL.toArray⟩, .string ⟨(nmL i).toArray⟩] w1 fun r w' => r = .returned (.int .i64 ((doRename q tmpL (nmL i)).1 : Int)) ∧ (w'.cell? ⟨X0, 0, none⟩ = some (.pointer (some ⟨d, 0, none⟩)) ∧ w'.cell? ⟨X1, 0, none⟩ = some (.int .i64 (i : Int))) ∧ Bx N S w V0 w' d (doRename q tmpL (nmL i)).2) := fun w1 hB1 => by
    have h1 : Bx N S w V0 w1 d q := (h.below hw hd).below hw hB1
    have hz := h.ks
    have k1 := (h1.keep X0 hX0.1 hX0.2).trans ((h.keep X0 hX0.1 hX0.2).symm.trans hx)
    have k2 := (h1.keep X1 hX1.1 hX1.2).trans ((h.keep X1 hX1.1 hX1.2).symm.trans hy)
    refine ⟨⟨by simp [World.cell?, k1], by simp [World.cell?, k2]⟩, (h1.op hS hN hw (F := 64) (args := #[.pointer (some ⟨d, 0, none⟩), .string ⟨tmpL.toArray⟩, .string ⟨(nmL i).toArray⟩]) (x := doRename q tmpL (nmL i)) (fun S' hD hN' _ => op_x hD hN' (X := fun p => doRename p tmpL (nmL i)) (fun k hk _ => rename_any hk tmpL (nmL i) tmp_len (by rw [nmL_len]; unfold maxLen; omega)))).mono ?_⟩
    rintro r w' ⟨rfl, hB⟩
    have k3 := (hB.keep X0 hX0.1 hX0.2).trans ((h.keep X0 hX0.1 hX0.2).symm.trans hx)
    have k4 := (hB.keep X1 hX1.1 hX1.2).trans ((h.keep X1 hX1.1 hX1.2).symm.trans hy)
    exact ⟨rfl, ⟨by simp [World.cell?, k3], by simp [World.cell?, k4]⟩, hB⟩
  obtain ⟨x, hxx⟩ : ∃ x, doRename q tmpL (nmL i) = x := ⟨_, rfl⟩
  rw [hxx] at HC ⊢
  clear h hx hxx hy hd hbel hv
  go_enter Tryz.func63, Tryz.ntmps63
  go_wp2_with fail
  go_region_held3 (fun wx => (wx.cell? ⟨X0, 0, none⟩ = some (.pointer (some ⟨d, 0, none⟩)) ∧ wx.cell? ⟨X1, 0, none⟩ = some (.int .i64 (i : Int)))) (first | exact ⟨t0, t1⟩ | exact ⟨s0, s1⟩ | go_keep)
    (first
      | (go_at_call 53; refine HNM.out.mono ?_; rintro r w1 ⟨rfl, hB1⟩; obtain ⟨⟨s0, s1⟩, hc⟩ := HC.out w1 hB1; have HC2 : Hid (Calls _ _ _ _ _) := hc; clear hc hB1)
      | (go_at_call 64; refine HC2.out.mono ?_; rintro r w2 ⟨rfl, ⟨t0, t1⟩, hB2⟩; have HB2 : Hid (Bx N S w V0 w2 d x.2) := hB2; clear hB2)
      | fail)
  go_wp2
  go_ret
  exact ⟨rfl, HB2.out⟩
end
end Go.Proofs.YtadajbdmlmickaaGreatDoor
