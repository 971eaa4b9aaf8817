/-
  A word that holds a text.
-/
import Derived.Test.YtbckogojnjmjcaaGreatDoorA4
namespace Go.Proofs.YtbckogojnjmjcaaGreatDoor
open Go.RowKit Go.Shelf

theorem tw_full {s : Bs} (h : (s.takeWhile bareB).length = s.length) : s.all bareB = true := by
  have e := (List.takeWhile_append_dropWhile (p := bareB) (l := s))
  have e2 := congrArg List.length e
  rw [List.length_append] at e2
  have : s.dropWhile bareB = [] := List.length_eq_zero_iff.1 (by omega)
  rw [this, List.append_nil] at e
  rw [← e]
  exact List.all_takeWhile
set_option maxRecDepth 100000 in
theorem quote_any (s : Bs) (hl : s.length ≤ 1000000) (w : World) : Calls Tryz.prog 12 #[str s] w fun e w' => e = .returned (str (quoteL s)) ∧ Below w.heap.size w w' := by
  have hz : (⟨s.toArray⟩ : ByteArray).size = s.length := by show s.toArray.size = _; simp
  have HBF : Hid (Calls Tryz.prog 37 #[.string ⟨s.toArray⟩] w fun e w' => e = .returned (.int .i64 ((s.takeWhile bareB).length : Int)) ∧ w' = w) := bareFront_any s (by omega) w
  have HNW : Hid (Bd w.heap.size w.heap.size [] (w.alloc (.cells #[.pointer none, .slice none 0 0] 94)) ∧ Below w.heap.size w (w.alloc (.cells #[.pointer none, .slice none 0 0] 94))) := ⟨Bd.new w, (Below.refl _ _).alloc (Nat.le_refl _) _⟩
  have HWB : Hid (∀ (l : Bs) (W : World), Bd w.heap.size w.heap.size l W → l.length ≤ 1000000000 → w.heap.size ≤ W.heap.size → Calls Tryz.prog 38 #[.pointer (some ⟨w.heap.size, 0, none⟩), .int .u8 34] W fun e w' => e = .returned .nilIface ∧ Bd w.heap.size w.heap.size (l ++ [34]) w' ∧ Below w.heap.size W w') := fun l W h1 h2 h3 => wb_any _ _ l 34 W h1 h2 h3
  have HFT : Hid (∀ k, (flat (s.take k)).length ≤ 4000000) := fun k => by
    have := flat_len (s.take k)
    have h2 : (s.take k).length ≤ s.length := by rw [List.length_take]; omega
    show _ ≤ _
    omega
  by_cases hbare : s ≠ [] ∧ s.head? ≠ some 35 ∧ s.all bareB = true
  · have HQ : Hid (quoteL s = s) := by show _ = _; unfold quoteL; rw [if_pos hbare]
    obtain ⟨c0, s1, hse⟩ : ∃ c0 s1, s = c0 :: s1 := by cases s with
      | nil => exact absurd rfl hbare.1
      | cons c s => exact ⟨c, s, rfl⟩
    have h0l : 0 < s.length := by rw [hse]; simp
    have hx0 : (⟨s.toArray⟩ : ByteArray)[0]'(by rw [hz]; exact h0l) = c0 := by
      show s[0] = c0
      simp [hse]
    have hem : s.isEmpty = false := by rw [hse]; rfl
    have h35 : ((c0.toNat : Int) != 35) = true := by rw [bne_iff_ne]; intro h; exact hbare.2.1 (by rw [hse]; simp; exact u8_eq (by show _ = 35; omega))
    have hn := tw_all hbare.2.2
    rw [hn] at HBF
    rw [HQ.out]
    clear hse hbare hn HNW HWB HFT
    unfold str
    go_enter Tryz.func12, Tryz.ntmps12
    go_wp2_with fail
    refine HBF.out.mono ?_
    rintro e w1 ⟨rfl, hw⟩
    subst w1
    go_wp2
    go_ret
    exact ⟨rfl, Below.refl _ _⟩
  · have HQ : Hid (quoteL s = 34 :: (flat s ++ [34])) := by show _ = _; unfold quoteL; rw [if_neg hbare]
    rw [HQ.out]
    have hcs : s = [] ∨ s.isEmpty = false ∧ ∃ (c0 : UInt8) (h0 : 0 < (⟨s.toArray⟩ : ByteArray).size), (⟨s.toArray⟩ : ByteArray)[0]'h0 = c0 ∧ 0 < s.length ∧ (((c0.toNat : Int) != 35) = false ∨ (((c0.toNat : Int) != 35) = true ∧ ((((s.takeWhile bareB).length : Int) == (s.length : Int)) = false))) := by
      cases s with
      | nil => exact .inl rfl
      | cons c0 s1 =>
        refine .inr ⟨rfl, c0, by rw [hz]; simp, rfl, by simp, ?_⟩
        by_cases h35 : c0 = 35
        · exact .inl (by rw [h35]; rfl)
        · refine .inr ⟨by rw [bne_iff_ne]; intro h; exact h35 (u8_eq (by show _ = 35; omega)), ?_⟩
          rw [beq_eq_false_iff_ne]
          intro h
          exact hbare ⟨by simp, by simpa using h35, tw_full (by omega)⟩
    have HSPL := spelt_any
    clear hbare
    unfold str at *
    generalize (List.takeWhile bareB s).length = tn at *
    rcases hcs with hnil | ⟨hem, c0, h0, hx0, h0l, h35 | ⟨h35, htn⟩⟩
    · have hem : s.isEmpty = true := by rw [hnil]; rfl
      clear hnil
      go_enter Tryz.func12, Tryz.ntmps12
      go_wp2_with fail
      refine (HWB.out [] _ HNW.out.1 (by simp) (by simp)).mono ?_
      rintro e w1 ⟨rfl, hbd1, hB1⟩
      have HBD1 : Hid (Bd w.heap.size w.heap.size ([] ++ [34]) w1) := hbd1
      have HB1 : Hid (Below w.heap.size w w1) := HNW.out.2.trans hB1
      clear hbd1 hB1 HNW
      go_wp2
      go_loopw [23] (fun i wr => ∃ k : Nat, i = .int .i64 k ∧ k ≤ s.length ∧ Hid (Bd w.heap.size w.heap.size (34 :: flat (s.take k)) wr) ∧ Hid (Below w.heap.size w wr)) (fun i _ => s.length - (intOf i).toNat)
      case atStart => exact ⟨0, rfl, Nat.zero_le _, HBD1.out, HB1.out⟩
      case round =>
        obtain ⟨k, rfl, hk, HBD, HBE⟩ := hrel
        have hsz : w.heap.size ≤ wr.heap.size := HBE.out.size
        by_cases hlt : k < s.length
        · have hx : (⟨s.toArray⟩ : ByteArray)[k]'(by rw [hz]; exact hlt) = s[k] := rfl
          have HTK : Hid (s.take (k + 1) = s.take k ++ [s[k]]) := List.take_succ_eq_append_getElem hlt
          generalize s[k] = c at hx HTK
          have hf := HFT.out k
          have hsl := spell_len c
          have HBDn : Hid (∀ W, Below wr.heap.size wr W → Bd w.heap.size w.heap.size (34 :: flat (s.take k)) W) := fun W h => HBD.out.below h
          have HWS : Hid (∀ W, Below wr.heap.size wr W → Calls Tryz.prog 39 #[.pointer (some ⟨w.heap.size, 0, none⟩), .string ⟨(spell c).toArray⟩] W fun e w' => e = .returned (.tuple #[.int .i64 ((spell c).length : Int), .nilIface]) ∧ Bd w.heap.size w.heap.size (34 :: flat (s.take k) ++ spell c) w' ∧ Below w.heap.size W w') := fun W h => ws_any _ _ _ _ W (HBDn.out W h) (by simp; omega) (by omega) (Nat.le_trans hsz h.size)
          have HNX : Hid ((34 :: flat (s.take k) ++ spell c : Bs) = 34 :: flat (s.take (k + 1))) := by show _ = _; rw [HTK.out, flat_snoc]; rfl
          clear HTK hsl hf
          go_wp2_with (first
            | (go_at_call 40; refine (HSPL _ _).mono ?_; rintro e w2 ⟨rfl, hB2⟩)
            | (go_at_call 39; refine (HWS.out w2 hB2).mono ?_; rintro e w3 ⟨rfl, hbd3, hB3⟩))
          go_roundw
          case rel => exact ⟨k + 1, by go_num, by omega, by show Bd _ _ _ _; rw [← HNX.out]; exact hbd3, by show Below _ _ _; exact (HBE.out.trans (hB2.mono hsz)).trans hB3⟩
          case measure => simp [intOf]; omega
        · have hke : k = s.length := by omega
          have HBD2 : Hid (Bd w.heap.size w.heap.size (34 :: flat s) wr) := by
            have := HBD.out
            rwa [hke, List.take_length] at this
          have HF2 : Hid ((34 :: flat s).length ≤ 1000000000) := by
            have := HFT.out s.length
            rw [List.take_length] at this
            show _ ≤ _
            simp; omega
          clear hke HBD
          go_wp2_with (first
            | (go_at_call 38; refine (HWB.out _ _ HBD2.out HF2.out hsz).mono ?_; rintro e w2 ⟨rfl, hbd2, hB2⟩; have HBD3 : Hid (Bd w.heap.size w.heap.size (34 :: flat s ++ [34]) w2) := hbd2; have hs2 := Nat.le_trans hsz hB2.size)
            | (go_at_call 41; refine (bstr_any _ _ _ _ HBD3.out hs2).mono ?_; rintro e w3 ⟨rfl, hB3⟩))
          go_ret
          exact ⟨rfl, (HBE.out.trans hB2).trans hB3⟩
    · go_enter Tryz.func12, Tryz.ntmps12
      go_wp2_with fail
      refine (HWB.out [] _ HNW.out.1 (by simp) (by simp)).mono ?_
      rintro e w1 ⟨rfl, hbd1, hB1⟩
      have HBD1 : Hid (Bd w.heap.size w.heap.size ([] ++ [34]) w1) := hbd1
      have HB1 : Hid (Below w.heap.size w w1) := HNW.out.2.trans hB1
      clear hbd1 hB1 HNW
      go_wp2
      go_loopw [23] (fun i wr => ∃ k : Nat, i = .int .i64 k ∧ k ≤ s.length ∧ Hid (Bd w.heap.size w.heap.size (34 :: flat (s.take k)) wr) ∧ Hid (Below w.heap.size w wr)) (fun i _ => s.length - (intOf i).toNat)
      case atStart => exact ⟨0, rfl, Nat.zero_le _, HBD1.out, HB1.out⟩
      case round =>
        obtain ⟨k, rfl, hk, HBD, HBE⟩ := hrel
        have hsz : w.heap.size ≤ wr.heap.size := HBE.out.size
        by_cases hlt : k < s.length
        · have hx : (⟨s.toArray⟩ : ByteArray)[k]'(by rw [hz]; exact hlt) = s[k] := rfl
          have HTK : Hid (s.take (k + 1) = s.take k ++ [s[k]]) := List.take_succ_eq_append_getElem hlt
          generalize s[k] = c at hx HTK
          have hf := HFT.out k
          have hsl := spell_len c
          have HBDn : Hid (∀ W, Below wr.heap.size wr W → Bd w.heap.size w.heap.size (34 :: flat (s.take k)) W) := fun W h => HBD.out.below h
          have HWS : Hid (∀ W, Below wr.heap.size wr W → Calls Tryz.prog 39 #[.pointer (some ⟨w.heap.size, 0, none⟩), .string ⟨(spell c).toArray⟩] W fun e w' => e = .returned (.tuple #[.int .i64 ((spell c).length : Int), .nilIface]) ∧ Bd w.heap.size w.heap.size (34 :: flat (s.take k) ++ spell c) w' ∧ Below w.heap.size W w') := fun W h => ws_any _ _ _ _ W (HBDn.out W h) (by simp; omega) (by omega) (Nat.le_trans hsz h.size)
          have HNX : Hid ((34 :: flat (s.take k) ++ spell c : Bs) = 34 :: flat (s.take (k + 1))) := by show _ = _; rw [HTK.out, flat_snoc]; rfl
          clear HTK hsl hf
          go_wp2_with (first
            | (go_at_call 40; refine (HSPL _ _).mono ?_; rintro e w2 ⟨rfl, hB2⟩)
            | (go_at_call 39; refine (HWS.out w2 hB2).mono ?_; rintro e w3 ⟨rfl, hbd3, hB3⟩))
          go_roundw
          case rel => exact ⟨k + 1, by go_num, by omega, by show Bd _ _ _ _; rw [← HNX.out]; exact hbd3, by show Below _ _ _; exact (HBE.out.trans (hB2.mono hsz)).trans hB3⟩
          case measure => simp [intOf]; omega
        · have hke : k = s.length := by omega
          have HBD2 : Hid (Bd w.heap.size w.heap.size (34 :: flat s) wr) := by
            have := HBD.out
            rwa [hke, List.take_length] at this
          have HF2 : Hid ((34 :: flat s).length ≤ 1000000000) := by
            have := HFT.out s.length
            rw [List.take_length] at this
            show _ ≤ _
            simp; omega
          clear hke HBD
          go_wp2_with (first
            | (go_at_call 38; refine (HWB.out _ _ HBD2.out HF2.out hsz).mono ?_; rintro e w2 ⟨rfl, hbd2, hB2⟩; have HBD3 : Hid (Bd w.heap.size w.heap.size (34 :: flat s ++ [34]) w2) := hbd2; have hs2 := Nat.le_trans hsz hB2.size)
            | (go_at_call 41; refine (bstr_any _ _ _ _ HBD3.out hs2).mono ?_; rintro e w3 ⟨rfl, hB3⟩))
          go_ret
          exact ⟨rfl, (HBE.out.trans hB2).trans hB3⟩
    · go_enter Tryz.func12, Tryz.ntmps12
      go_wp2_with fail
      refine HBF.out.mono ?_
      rintro e w0 ⟨rfl, hw⟩
      subst w0
      go_wp2_with fail
      refine (HWB.out [] _ HNW.out.1 (by simp) (by simp)).mono ?_
      rintro e w1 ⟨rfl, hbd1, hB1⟩
      have HBD1 : Hid (Bd w.heap.size w.heap.size ([] ++ [34]) w1) := hbd1
      have HB1 : Hid (Below w.heap.size w w1) := HNW.out.2.trans hB1
      clear hbd1 hB1 HNW
      go_wp2
      go_loopw [23] (fun i wr => ∃ k : Nat, i = .int .i64 k ∧ k ≤ s.length ∧ Hid (Bd w.heap.size w.heap.size (34 :: flat (s.take k)) wr) ∧ Hid (Below w.heap.size w wr)) (fun i _ => s.length - (intOf i).toNat)
      case atStart => exact ⟨0, rfl, Nat.zero_le _, HBD1.out, HB1.out⟩
      case round =>
        obtain ⟨k, rfl, hk, HBD, HBE⟩ := hrel
        have hsz : w.heap.size ≤ wr.heap.size := HBE.out.size
        by_cases hlt : k < s.length
        · have hx : (⟨s.toArray⟩ : ByteArray)[k]'(by rw [hz]; exact hlt) = s[k] := rfl
          have HTK : Hid (s.take (k + 1) = s.take k ++ [s[k]]) := List.take_succ_eq_append_getElem hlt
          generalize s[k] = c at hx HTK
          have hf := HFT.out k
          have hsl := spell_len c
          have HBDn : Hid (∀ W, Below wr.heap.size wr W → Bd w.heap.size w.heap.size (34 :: flat (s.take k)) W) := fun W h => HBD.out.below h
          have HWS : Hid (∀ W, Below wr.heap.size wr W → Calls Tryz.prog 39 #[.pointer (some ⟨w.heap.size, 0, none⟩), .string ⟨(spell c).toArray⟩] W fun e w' => e = .returned (.tuple #[.int .i64 ((spell c).length : Int), .nilIface]) ∧ Bd w.heap.size w.heap.size (34 :: flat (s.take k) ++ spell c) w' ∧ Below w.heap.size W w') := fun W h => ws_any _ _ _ _ W (HBDn.out W h) (by simp; omega) (by omega) (Nat.le_trans hsz h.size)
          have HNX : Hid ((34 :: flat (s.take k) ++ spell c : Bs) = 34 :: flat (s.take (k + 1))) := by show _ = _; rw [HTK.out, flat_snoc]; rfl
          clear HTK hsl hf
          go_wp2_with (first
            | (go_at_call 40; refine (HSPL _ _).mono ?_; rintro e w2 ⟨rfl, hB2⟩)
            | (go_at_call 39; refine (HWS.out w2 hB2).mono ?_; rintro e w3 ⟨rfl, hbd3, hB3⟩))
          go_roundw
          case rel => exact ⟨k + 1, by go_num, by omega, by show Bd _ _ _ _; rw [← HNX.out]; exact hbd3, by show Below _ _ _; exact (HBE.out.trans (hB2.mono hsz)).trans hB3⟩
          case measure => simp [intOf]; omega
        · have hke : k = s.length := by omega
          have HBD2 : Hid (Bd w.heap.size w.heap.size (34 :: flat s) wr) := by
            have := HBD.out
            rwa [hke, List.take_length] at this
          have HF2 : Hid ((34 :: flat s).length ≤ 1000000000) := by
            have := HFT.out s.length
            rw [List.take_length] at this
            show _ ≤ _
            simp; omega
          clear hke HBD
          go_wp2_with (first
            | (go_at_call 38; refine (HWB.out _ _ HBD2.out HF2.out hsz).mono ?_; rintro e w2 ⟨rfl, hbd2, hB2⟩; have HBD3 : Hid (Bd w.heap.size w.heap.size (34 :: flat s ++ [34]) w2) := hbd2; have hs2 := Nat.le_trans hsz hB2.size)
            | (go_at_call 41; refine (bstr_any _ _ _ _ HBD3.out hs2).mono ?_; rintro e w3 ⟨rfl, hB3⟩))
          go_ret
          exact ⟨rfl, (HBE.out.trans hB2).trans hB3⟩
end Go.Proofs.YtbckogojnjmjcaaGreatDoor
