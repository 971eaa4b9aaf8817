/-
  The document's Check.
-/
import Derived.Test.YtbcnpdpdflkanaaKd
import Derived.Test.YtbcnpdpdflkanaaDx
namespace Go.Proofs.Ytbcnpdpdflkanaa
open Go.RowKit Go.Maps Go.Sort Go.Shelf

theorem KS.ko {h : List Lo} {ks : List Bs} (hk : KS h h.length ks) : KeysOk h ks := by
  refine ⟨?_, ?_, hk.mem⟩
  · unfold List.Nodup
    refine hk.rise.imp ?_
    intro a b h1 e
    rw [e] at h1
    exact lt_irr _ h1
  · exact hk.rise.imp (fun h1 => by simpa [leB] using List.le_iff_lt_or_eq.2 (.inl h1))

set_option maxRecDepth 100000 in
set_option maxHeartbeats 1000000 in
theorem refCheck_any (N : Nat) (w : World) (a : Option Addr) (cap : Nat) (h : List Lo) (hN : N ≤ w.heap.size) (hA : HAt N w a h) (hok : ∀ x ∈ h, LoOk x) (hv : valid h = 0) :
    Calls Try.prog 20 #[.slice a h.length cap] w fun e w' => e = .returned (.bool (judged h)) ∧ Below w.heap.size w w' := by
  have HE : Hid (∀ w1 key, Below w.heap.size w w1 → Calls Try.prog 22 #[.slice a h.length cap, str key] w1 fun e w' => ∃ v, e = .returned (.tuple #[v, .bool (explain h key).isSome]) ∧ IOw w1.heap.size w' v ((explain h key).getD []) ∧ Below w1.heap.size w1 w') := fun w1 key hB => refExplain_any N w1 a cap h key (Nat.le_trans hN hB.size) (hA.below (hB.mono hN)) hok (by have := valid_len hv; omega) (valid_few hv key)
  have HK := refKeys_any N w a cap h hN hA (by have := valid_len hv; omega)
  clear hA hok hv
  go_enter Try.func20, Try.ntmps20
  go_wp2_with (first
    | (go_at_call 14; refine HK.mono ?_; rintro e w2 ⟨kv, ks, rfl, hKS, hrow, hB2⟩; obtain ⟨ka, kc, hks, hk1, hk2⟩ := row_shape hrow; subst hks))
  have HKS : Hid (KeysOk h ks) := hKS.ko
  have HROW : Hid (w2.ownsRow _ _ _ _ _ _) := hrow
  have hklen : ks.length ≤ 9223372036854775807 := by unfold maxLen at hk2; omega
  clear hKS hrow hk1 hk2
  go_loopw [4] (fun i wr => ∃ (k : Nat), i = .int .i64 k ∧ k ≤ ks.length ∧ (∀ j, j < k → (explain h (ks.getD j [])).isSome = true) ∧ Below w.heap.size w wr ∧ Below w2.heap.size w2 wr) (fun i _ => ks.length - (intOf i).toNat)
  case atStart => exact ⟨0, rfl, by omega, fun j hj => by omega, hB2, Below.refl _ _⟩
  case round =>
    obtain ⟨k, rfl, hk, hall, hBr, hBr2⟩ := hrel
    by_cases hlt : k < ks.length
    · obtain ⟨gg, rfl, -, hgl⟩ := row_ptr HROW.out (by omega)
      have hck := (row_cell HROW.out (j := k) (by omega)).1
      have hck2 := (hBr2.cell (p := ⟨gg, k, none⟩) hgl).trans hck
      rw [show (ks.map encStr).getD k undef = .string ⟨(ks.getD k []).toArray⟩ from by
        rw [List.getD_eq_getElem?_getD, List.getElem?_map, List.getElem?_eq_getElem hlt, List.getD_eq_getElem?_getD, List.getElem?_eq_getElem hlt]; rfl] at hck2
      have HX := HE.out wr (ks.getD k []) hBr
      have hmem : ks.getD k [] ∈ ks := by rw [List.getD_eq_getElem?_getD, List.getElem?_eq_getElem hlt]; exact List.getElem_mem hlt
      have HAL : Hid (∀ j, j < k → (explain h (ks.getD j [])).isSome = true) := hall
      clear hall hck
      unfold str at HX
      by_cases hs : (explain h (ks.getD k [])).isSome = true
      · have HSS : Hid ((explain h (ks.getD k [])).isSome = true) := hs
        rw [hs] at HX
        clear hs hmem
        generalize (explain h (ks.getD k [])).getD [] = el at *
        generalize hkk : ks.getD k [] = kk at *
        have HKK : Hid (ks.getD k [] = kk) := hkk
        clear hkk
        go_wp2_with (go_at_call 22; refine HX.mono ?_; rintro e w3 ⟨v, rfl, hI, hB3⟩)
        go_roundw
        case rel =>
          refine ⟨k + 1, by simp, by omega, fun j hj => ?_, hBr.trans (hB3.mono hBr.size), hBr2.trans (hB3.mono hBr2.size)⟩
          by_cases e : j = k
          · subst e; rw [HKK.out]; exact HSS.out
          · exact HAL.out j (by omega)
        case measure => simp [intOf]; omega
      · have hs' : (explain h (ks.getD k [])).isSome = false := by simpa using hs
        rw [hs'] at HX
        have HJ : Hid (judged h = false) := judged_not HKS.out hmem hs'
        clear hs hs' hmem
        generalize (explain h (ks.getD k [])).getD [] = el at *
        generalize ks.getD k [] = kk at *
        go_wp2_with (go_at_call 22; refine HX.mono ?_; rintro e w3 ⟨v, rfl, hI, hB3⟩)
        go_ret
        exact ⟨by rw [HJ.out]; rfl, hBr.trans (hB3.mono hBr.size)⟩
    · have : k = ks.length := by omega
      subst this
      have HJ : Hid (judged h = true) := judged_of HKS.out (fun k hk => by
        obtain ⟨i, hi, rfl⟩ := List.getElem_of_mem hk
        have := hall i hi
        rw [List.getD_eq_getElem?_getD, List.getElem?_eq_getElem hi] at this
        exact this)
      clear hall
      go_wp2
      go_ret
      exact ⟨by rw [HJ.out]; rfl, hBr⟩
end Go.Proofs.Ytbcnpdpdflkanaa
