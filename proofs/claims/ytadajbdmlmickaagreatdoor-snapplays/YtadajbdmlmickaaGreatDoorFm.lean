/-
  framed: the bytes of a snapshot's file.
-/
import Derived.Test.YtadajbdmlmickaaGreatDoorPn
import Derived.Test.YtadajbdmlmickaaGreatDoorJCc
namespace Go.Proofs.YtadajbdmlmickaaGreatDoor
open Go.RowKit
set_option linter.unusedVariables false

set_option maxRecDepth 100000 in
set_option maxHeartbeats 2000000 in
theorem framed_any (i t : Int) (m : List UInt8) (a : Option Addr) (cap : Nat) (w : World) (M : Nat) (hx : Sl M w (.slice a m.length cap) m) (hM : M ≤ w.heap.size) : Calls Tryz.prog 56 #[.agg #[.int .i64 i, .int .i64 t, .slice a m.length cap]] w fun r w' =>
    ∃ u, r = .returned (.tuple #[u, .int .i64 (frmE i t m.length : Int)]) ∧ Ow w.heap.size w' u (if frmE i t m.length = 0 then frL i t m else []) ∧ Below w.heap.size w w' := by
  obtain ⟨W0, hW0⟩ : ∃ W0, w.alloc (.cells #[.int .i64 i, .int .i64 t, .slice a m.length cap] 34) = W0 := ⟨_, rfl⟩
  have HW0 : Hid (w.alloc (.cells #[.int .i64 i, .int .i64 t, .slice a m.length cap] 34) = W0) := hW0
  have hB0 : Below w.heap.size w W0 := by rw [← hW0]; exact (Below.refl _ w).alloc (Nat.le_refl _) _
  have hz0 : W0.heap.size = w.heap.size + 1 := by rw [← hW0]; simp
  have hbx : W0.heap[w.heap.size]? = some (.cells #[.int .i64 i, .int .i64 t, .slice a m.length cap] 34 (0, 0)) := by rw [← hW0]; exact heap_alloc_new w _
  obtain ⟨⟨c0, c1, c2⟩, -⟩ := Cd.cells3 hbx
  have HP : Hid (Calls _ _ _ _ _) := Cd.putSnap_any i t m a cap W0 M (show Cd.Sl M W0 _ _ from hx.below (hB0.mono hM)) (by omega)
  have HB0 : Hid (Below w.heap.size w W0) := hB0
  have HC : Hid (∀ w1, Below W0.heap.size W0 w1 → w1.cell? ⟨w.heap.size, 0, none⟩ = some (.int .i64 i)) := fun w1 hB => (hB.cell (p := ⟨w.heap.size, 0, none⟩) (by show w.heap.size < _; omega)).trans c0
  have HTL : Hid (Cd.ckSnap i t m.length = 0 → (Cd.txSnap i t m).length ≤ 1048576) := fun h => by
    have := Cd.txSnap_len i t m
    have := (Cd.ckSnap_ok h).2.2
    omega
  unfold frmE frL
  clear hx hB0 hbx hW0
  obtain ⟨tx, htx⟩ : ∃ tx, Cd.txSnap i t m = tx := ⟨_, rfl⟩
  rw [htx] at HP HTL ⊢
  obtain ⟨ck, hck⟩ : ∃ ck, Cd.ckSnap i t m.length = ck := ⟨_, rfl⟩
  rw [hck] at HP HTL ⊢
  clear htx hck
  by_cases h0 : ck = 0
  · subst h0
    rw [if_pos rfl] at HP
    by_cases hi : i = 0
    · subst hi
      go_enter Tryz.func56, Tryz.ntmps56
      go_wp2_with fail
      rw [HW0.out]
      go_wp2_with fail
      refine HP.out.mono ?_
      rintro r w1 ⟨u, rfl, hO1, hB1⟩
      have d0 := HC.out w1 hB1
      have hzw : w.heap.size < w1.heap.size := by have := hB1.size; omega
      have HB1 : Hid (Below w.heap.size w w1) := HB0.out.trans (hB1.mono HB0.out.size)
      clear hO1 hB1 HP HC c0 c1 c2
      go_wp2
      go_ret2
      exact ⟨.slice none 0 0, rfl, Ow.nil _ _, HB1.out⟩
    · have hi' : (i == 0) = false := by simpa using hi
      have hpe : Fr.putE tx = 0 := by unfold Fr.putE; rw [if_pos (HTL.out rfl)]
      have hpb : Fr.putB tx = Fr.frameB tx := by unfold Fr.putB; rw [if_pos (HTL.out rfl)]
      have HPE : Hid (Fr.putE tx = 0) := hpe
      have HPB : Hid (Fr.putB tx = Fr.frameB tx) := hpb
      clear hpe hpb HTL
      go_enter Tryz.func56, Tryz.ntmps56
      go_wp2_with fail
      rw [HW0.out]
      go_wp2_with fail
      refine HP.out.mono ?_
      rintro r w1 ⟨u, rfl, hO1, hB1⟩
      obtain ⟨ua, uc, hsh, -, -⟩ := hO1.shape
      subst hsh
      have d0 := HC.out w1 hB1
      have hzw : w.heap.size < w1.heap.size := by have := hB1.size; omega
      have HB1 : Hid (Below w.heap.size w w1) := HB0.out.trans (hB1.mono HB0.out.size)
      have HF : Hid (Calls _ _ _ _ _) := Fr.put_any w1.heap.size _ tx w1 (show Fr.Sl _ _ _ _ from hO1.sl (Nat.le_refl _)) (Nat.le_refl _)
      rw [HPE.out, HPB.out] at HF
      clear hO1 hB1 HP HC c0 c1 c2
      go_wp2_with fail
      refine HF.out.mono ?_
      rintro r w2 ⟨v2, rfl, hO2, hB2⟩
      have HO2 : Hid (Ow w1.heap.size w2 v2 (Fr.frameB tx)) := hO2
      have HB2 : Hid (Below w.heap.size w w2) := HB1.out.trans (hB2.mono HB1.out.size)
      clear hO2 hB2 HF
      go_wp2
      go_ret2
      refine ⟨v2, ?_, ?_, HB2.out⟩
      · first | rfl | simp | simp [hi]
      · have := HO2.out.base HB1.out.size
        simpa [hi] using this
  · have h0' : ((ck : Int) != 0) = true := by simp; omega
    rw [if_neg h0] at HP
    go_enter Tryz.func56, Tryz.ntmps56
    go_wp2_with fail
    rw [HW0.out]
    go_wp2_with fail
    refine HP.out.mono ?_
    rintro r w1 ⟨u, rfl, hO1, hB1⟩
    have HB1 : Hid (Below w.heap.size w w1) := HB0.out.trans (hB1.mono HB0.out.size)
    clear hO1 hB1 HP HC c0 c1 c2
    go_wp2
    go_ret2
    refine ⟨.slice none 0 0, ?_, ?_, HB1.out⟩
    · first | rfl | simp | simp [h0]
    · first | exact Ow.nil _ _ | (simp [h0]; exact Ow.nil _ _)
end Go.Proofs.YtadajbdmlmickaaGreatDoor
