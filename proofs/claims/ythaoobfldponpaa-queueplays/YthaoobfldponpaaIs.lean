/-
  is: is a queue what a list says?
-/
import Derived.Test.YthaoobfldponpaaSm
namespace Go.Proofs.Ythaoobfldponpaa
open Go.RowKit
set_option linter.unusedVariables false

set_option maxRecDepth 100000 in
set_option maxHeartbeats 8000000 in
theorem is_any {N : Nat} {S : Nat → Prop} {wz : World} {b R : Nat} {L : List Int} (h : Qu N S wz b R L) (aa : Option Addr) (ac : Nat) (hv : Sl wz.heap.size wz (.slice aa L.length ac) L) :
    Calls Try.prog 12 #[.pointer (some ⟨b, 0, none⟩), .slice aa L.length ac, .int .i64 (R : Int)] wz fun e w' => e = .returned (.bool true) ∧ Below wz.heap.size wz w' := by
  have HW : Hid (∀ w', Below wz.heap.size wz w' → Qu N S w' b R L) := fun w' hB => h.below hB
  have HROW : Hid (∀ w', Below wz.heap.size wz w' → Sl w'.heap.size w' (.slice aa L.length ac) L) := fun w' hB' => (hv.below hB').mono hB'.size
  have hLR := h.len
  have hR := h.rm
  have HQ : Hid (Qu N S wz b R L) := h
  clear h hv
  go_enter Try.func12, Try.ntmps12
  go_wp2_with fail
  refine (items_any HQ.out).mono ?_
  rintro e w1 ⟨v1, rfl, ho1, hB1⟩
  obtain ⟨a1, c1, rfl, -, -⟩ := ho1.shape
  have hs1 := same_any w1.heap.size _ _ _ _ w1 (ho1.sl (Nat.le_refl _)) (HROW.out w1 hB1)
  rw [decide_eq_true (rfl : L = L)] at hs1
  have HO1 : Hid (Ow wz.heap.size w1 (.slice a1 L.length c1) L) := ho1
  have HB1 : Hid (Below wz.heap.size wz w1) := hB1
  clear ho1 hB1
  go_wp2_with fail
  refine hs1.mono ?_
  rintro e w2 ⟨rfl, q2, hw2⟩
  have HO2 : Hid (Ow wz.heap.size w2 (.slice a1 L.length c1) L) := by rw [hw2]; exact HO1.out.out (X := fun _ => False) (Out.drew w1 q2) (fun _ _ hf => hf)
  have HB2 : Hid (Below wz.heap.size wz w2) := by rw [hw2]; exact HB1.out.trans ((Out.drew (X := fun _ => False) w1 q2).below HB1.out.size (fun _ h => h.elim))
  clear hw2 hs1 HO1 HB1
  go_wp2
  go_loopw [9] (fun kv wr => ∃ (k : Nat) (l' : List Int), kv = .int .i64 (k : Int) ∧ k ≤ L.length ∧ l'.length = L.length ∧ Ow wz.heap.size wr (.slice a1 L.length c1) l' ∧ Below wz.heap.size wz wr) (fun kv _ => L.length - (intOf kv).toNat)
  case atStart => exact ⟨0, L, rfl, Nat.zero_le _, rfl, HO2.out, HB2.out⟩
  case round =>
    obtain ⟨k, l', rfl, hk, hl', ho, hB⟩ := hrel
    have HO' : Hid (Ow wz.heap.size wr (.slice a1 L.length c1) l') := ho
    have HB' : Hid (Below wz.heap.size wz wr) := hB
    have HL' : Hid (l'.length = L.length) := hl'
    clear ho hB hl' HO2 HB2
    by_cases hkl : k < L.length
    · have hkl' : (k : Int) < (L.length : Int) := by omega
      obtain ⟨g, c, hv, hgN, hcell, hfz⟩ := HO'.out.at0 (by rw [HL'.out]; omega)
      rw [HL'.out] at hv
      cases hv
      have d0 := hcell k (by rw [HL'.out]; exact hkl)
      have d1 := hfz k
      have HP : Hid (Ow wz.heap.size (wr.setCell ⟨g, k, none⟩ (.int .i64 (-1))) (.slice (some ⟨g, 0, none⟩) L.length c1) (l'.set k (-1))) := HO'.out.poke k (-1)
      have HBP : Hid (Below wz.heap.size wz (wr.setCell ⟨g, k, none⟩ (.int .i64 (-1)))) := HB'.out.trans ((Out.set (X := fun j => j = g) rfl).below HB'.out.size (fun j hj => by omega))
      clear hcell hfz
      go_wp2
      exact ⟨⟨k + 1, l'.set k (-1), by go_num, by omega, by rw [List.length_set]; exact HL'.out, HP.out, HBP.out⟩, by simp [intOf]; omega⟩
    · have hkl' : decide ((k : Int) < (L.length : Int)) = false := by simp; omega
      have hOA : Ow wz.heap.size (wr.alloc (.cells #[.int .i64 (-1)] 3)) (.slice a1 L.length c1) l' := HO'.out.alloc _
      have HOA : Hid _ := hOA
      have hsl := sl_one wr (-1)
      have hlen2 : l'.length + [(-1 : Int)].length ≤ 1099511627776 := by rw [HL'.out]; simp; omega
      have HLA : Hid ((l' ++ [(-1 : Int)]).length = L.length + 1) := by show _ = _; simp [HL'.out]
      clear hOA
      go_wp2_with (at_builtin; refine wpList_append_ow rfl _ _ rfl wz.heap.size _ _ _ l' [(-1 : Int)] rfl HOA.out rfl hsl hlen2 (by have := HB'.out.size; simp; omega) ?_; intro v' w3 g1 g2 g3; have B3 : Below wz.heap.size wz w3 := (HB'.out.alloc HB'.out.size (.cells #[.int .i64 (-1)] 3)).grown g2 (by have := HB'.out.size; simp; omega) (fun k e => (Ow.lt HOA.out e).1); obtain ⟨a3, c3, rfl, -, -⟩ := Ow.shape g1; rw [HLA.out]; have HB3 : Hid (Below wz.heap.size wz w3) := B3; clear g1 g2 g3 B3)
      refine (items_any (HW.out w3 HB3.out)).mono ?_
      rintro e w4 ⟨v4, rfl, ho4, hB4⟩
      have hB4' := HB3.out.trans (hB4.mono HB3.out.size)
      obtain ⟨a4, c4, rfl, -, -⟩ := ho4.shape
      have hs4 := same_any w4.heap.size _ _ _ _ w4 (ho4.sl (Nat.le_refl _)) (HROW.out w4 hB4')
      rw [decide_eq_true (rfl : L = L)] at hs4
      have HB4 : Hid (Below wz.heap.size wz w4) := hB4'
      clear ho4 hB4 hB4'
      go_wp2_with fail
      refine hs4.mono ?_
      rintro e w5 ⟨rfl, q5, hw5⟩
      have HB5 : Hid (Below wz.heap.size wz w5) := by rw [hw5]; exact HB4.out.trans ((Out.drew (X := fun _ => False) w4 q5).below HB4.out.size (fun _ h => h.elim))
      clear hw5 hs4 HB4
      go_wp2_with fail
      refine (len_any (HW.out w5 HB5.out)).mono ?_
      rintro e wx ⟨rfl, hwx⟩
      subst wx
      have hwR : IntKind.i64.wrap ((R : Int) - (L.length : Int)) = ((R - L.length : Nat) : Int) := by rw [IntKind.wrap_i64]; omega
      go_wp2_with fail
      refine (room_any (HW.out w5 HB5.out)).mono ?_
      rintro e w6 ⟨rfl, q6, hw6⟩
      have HB6 : Hid (Below wz.heap.size wz w6) := by rw [hw6]; exact HB5.out.trans ((Out.drew (X := fun _ => False) w5 q6).below HB5.out.size (fun _ h => h.elim))
      clear hw6 HB5
      generalize R - L.length = D at *
      go_wp2
      go_ret
      exact ⟨by simp, HB6.out⟩

end Go.Proofs.Ythaoobfldponpaa
