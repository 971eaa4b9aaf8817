/-
  Words and numbers told; a reply's words. A word that holds a long text. A reply's words.
-/
import Derived.Test.YtbckogojnjmjcaaGreatDoorPc
import Derived.Test.YtbckogojnjmjcaaGreatDoorA7
namespace Go.Proofs.YtbckogojnjmjcaaGreatDoor
open Go.RowKit Go.Shelf

theorem cat2 (a b : Bs) : (⟨a.toArray⟩ : ByteArray) ++ ⟨b.toArray⟩ = ⟨(a ++ b).toArray⟩ := by
  apply ByteArray.ext
  simp [ByteArray.data_append]

theorem own_two (w : World) (x y : Bs) : SOw w.heap.size (w.alloc (.cells #[encStr x, encStr y] 9)) (.slice (some ⟨w.heap.size, 0, none⟩) 2 2) [x, y] := by
  refine ⟨rfl, .inr ⟨w.heap.size, 2, #[encStr x, encStr y], rfl, Nat.le_refl _, heap_alloc_new w _, by simp, by unfold maxLen; decide, by simp, by simp⟩⟩
theorem join_two (x y : Bs) : Lib.join [x, y] [32] = x ++ [32] ++ y := by simp [Lib.join, List.intercalate]
/-- Two words joined. -/
theorem join2_any (x y : Bs) (hx : x.length ≤ 100000000) (hy : y.length ≤ 100000000) (w : World) : Calls Tryz.prog 59 #[.slice (some ⟨w.heap.size, 0, none⟩) 2 2] (w.alloc (.cells #[.string ⟨x.toArray⟩, .string ⟨y.toArray⟩] 9)) fun e w' => e = .returned (.string ⟨(x ++ [32] ++ y).toArray⟩) ∧ Below w.heap.size w w' := by
  refine (join_any w.heap.size _ _ [x, y] (own_two w x y) (by simp) (by rw [join_two]; simp; omega)).mono ?_
  rintro e w' ⟨h1, h2⟩
  rw [join_two] at h1
  exact ⟨h1, ((Below.refl _ _).alloc (Nat.le_refl _) _).trans (h2.mono (by simp))⟩
def codesL : List Bs := [[100, 111, 110, 101], [110, 111, 110, 101], [111, 116, 104, 101, 114], [111, 108, 100], [102, 117, 108, 108], [108, 101, 97, 100], [98, 117, 115, 121], [108, 111, 115, 116], [108, 105, 109, 105, 116], [100, 111, 119, 110]]
def opsL : List Bs := [[103, 101, 116], [112, 117, 116], [100, 101, 108, 101, 116, 101], [115, 119, 97, 112]]
set_option maxRecDepth 100000 in
theorem codes_at (w : World) : Calls Tryz.prog 62 #[] w fun e w' => ∃ g, e = .returned (.agg #[.int .i64 1, .slice (some ⟨g, 0, none⟩) 10 10]) ∧ g < w'.heap.size ∧ StrAt w' g codesL ∧ Below w.heap.size w w' := by
  go_enter Tryz.func62, Tryz.ntmps62
  go_wp2
  have h := fun o1 o2 => heap_alloc_new (w.alloc o1) o2
  simp only [World.size_alloc] at h
  refine bodyPost_ret (v := .agg #[.int .i64 1, .slice (some ⟨w.heap.size + 1, 0, none⟩) 10 10]) (by simp [results, Tryz.results62, go_sem]) rfl ⟨w.heap.size + 1, rfl, by simp, ?_, ((Below.refl _ _).alloc (Nat.le_refl _) _).alloc (by simp) _⟩
  exact StrAt.of (l := codesL) (h _ _)
set_option maxRecDepth 100000 in
theorem ops_at (w : World) : Calls Tryz.prog 65 #[] w fun e w' => ∃ g, e = .returned (.agg #[.int .i64 1, .slice (some ⟨g, 0, none⟩) 4 4]) ∧ g < w'.heap.size ∧ StrAt w' g opsL ∧ Below w.heap.size w w' := by
  go_enter Tryz.func65, Tryz.ntmps65
  go_wp2
  have h := fun o1 o2 => heap_alloc_new (w.alloc o1) o2
  simp only [World.size_alloc] at h
  refine bodyPost_ret (v := .agg #[.int .i64 1, .slice (some ⟨w.heap.size + 1, 0, none⟩) 4 4]) (by simp [results, Tryz.results65, go_sem]) rfl ⟨w.heap.size + 1, rfl, by simp, ?_, ((Below.refl _ _).alloc (Nat.le_refl _) _).alloc (by simp) _⟩
  exact StrAt.of (l := opsL) (h _ _)
/-- A word and numbers. -/
def tellL : Bs → List Int → Bs
  | wd, [] => wd
  | wd, n :: ns => tellL (wd ++ [32] ++ Lib.itoa n) ns
/-- Numbers that may be read. -/
def NRd (W : World) (v : Value) (l : List Int) : Prop := ∃ g c, v = .slice (some ⟨g, 0, none⟩) l.length c ∧ g < W.heap.size ∧ ∀ j, j < l.length → W.cell? ⟨g, j, none⟩ = some (.int .i64 (l.getD j 0))
set_option maxRecDepth 100000 in
theorem tell_any (wd : Bs) (hw : wd.length ≤ 1000) (l : List Int) (hl : l.length ≤ 100) (hr : ∀ n ∈ l, -9223372036854775808 ≤ n ∧ n ≤ 9223372036854775807) (v : Value) (w : World) (hv : Vars w) (hn : NRd w v l) : Calls Tryz.prog 61 #[.string ⟨wd.toArray⟩, v] w fun e w' => e = .returned (.string ⟨(tellL wd l).toArray⟩) ∧ Below w.heap.size w w' := by
  obtain ⟨g, c, rfl, hg, hcs⟩ := hn
  have HCS : Hid (∀ j, j < l.length → w.cell? ⟨g, j, none⟩ = some (.int .i64 (l.getD j 0))) := hcs
  clear hcs
  obtain ⟨n, hnn⟩ : ∃ n, n = l.length := ⟨_, rfl⟩
  have HN : Hid (l.length = n) := hnn.symm
  rw [show l.length = n from hnn.symm] at hl ⊢
  clear hnn
  go_enter Tryz.func61, Tryz.ntmps61
  go_wp2
  go_loopw [0, 9] (fun vs vi wr => ∃ (k : Nat) (s : Bs), vi = .int .i64 k ∧ k ≤ n ∧ vs = .string ⟨s.toArray⟩ ∧ s.length ≤ 1000 + 30 * k ∧ Hid (tellL wd l = tellL s (l.drop k)) ∧ Hid (Below w.heap.size w wr)) (fun _ i _ => n - (intOf i).toNat)
  case atStart => exact ⟨0, wd, rfl, by omega, rfl, by omega, by show _ = _; rw [List.drop_zero], Below.refl _ _⟩
  case round =>
    obtain ⟨k, s, rfl, hk, rfl, hs, HTL, HB⟩ := hrel
    by_cases hlt : k < n
    · have hkn : k < l.length := by rw [HN.out]; exact hlt
      have hc := (HB.out.cell (p := ⟨g, k, none⟩) hg).trans (HCS.out k hkn)
      have hrn := hr (l.getD k 0) (by rw [List.getD_eq_getElem?_getD, List.getElem?_eq_getElem hkn]; exact List.getElem_mem hkn)
      have HIT := itoa_any (l.getD k 0) hrn.1 hrn.2 wr (hv.below HB.out)
      have hil := itoa_len (l.getD k 0) hrn.1 hrn.2
      have HTN : Hid (tellL wd l = tellL (s ++ [32] ++ Lib.itoa (l.getD k 0)) (l.drop (k + 1))) := by
        show _ = _
        rw [HTL.out, List.drop_eq_getElem_cons hkn, List.getD_eq_getElem?_getD, List.getElem?_eq_getElem hkn]
        rfl
      unfold str at HIT
      generalize l.getD k 0 = m at *
      generalize Lib.itoa m = sp at *
      have HJ := fun W => join2_any s sp (by omega) (by omega) W
      clear hkn
      go_wp2_with (first
        | (go_at_call 58; refine HIT.mono ?_; rintro e w5 ⟨rfl, hB5⟩)
        | (go_at_call 59; refine (HJ _).mono ?_; rintro e w6 ⟨rfl, hB6⟩))
      refine ⟨⟨k + 1, s ++ [32] ++ sp, by simp, by omega, by simp, ?_, HTN.out, (HB.out.trans (hB5.mono HB.out.size)).trans (hB6.mono (by have := HB.out.size; have := hB5.size; omega))⟩, by simp [intOf]; omega⟩
      simp only [List.length_append, List.length_cons, List.length_nil]
      omega
    · have hke : k = n := by omega
      have HE : Hid (tellL wd l = s) := by
        show _ = _
        rw [HTL.out, List.drop_of_length_le (by rw [HN.out]; omega)]
        rfl
      clear hke
      go_wp2
      go_ret
      exact ⟨by rw [HE.out]; rfl, HB.out⟩
end Go.Proofs.YtbckogojnjmjcaaGreatDoor
namespace Go.Proofs.YtbckogojnjmjcaaGreatDoor
open Go.RowKit Go.Shelf

set_option maxRecDepth 100000 in
theorem quote_big (s : Bs) (hl : s.length ≤ 2000000) (w : World) : Calls Tryz.prog 12 #[str s] w fun e w' => e = .returned (str (quoteL s)) ∧ Below w.heap.size w w' := by
  have hz : (⟨s.toArray⟩ : ByteArray).size = s.length := by show s.toArray.size = _; simp
  have HBF : Hid (Calls Tryz.prog 37 #[.string ⟨s.toArray⟩] w fun e w' => e = .returned (.int .i64 ((s.takeWhile bareB).length : Int)) ∧ w' = w) := bareFront_any s (by omega) w
  have HNW : Hid (Bd w.heap.size w.heap.size [] (w.alloc (.cells #[.pointer none, .slice none 0 0] 94)) ∧ Below w.heap.size w (w.alloc (.cells #[.pointer none, .slice none 0 0] 94))) := ⟨Bd.new w, (Below.refl _ _).alloc (Nat.le_refl _) _⟩
  have HWB : Hid (∀ (l : Bs) (W : World), Bd w.heap.size w.heap.size l W → l.length ≤ 1000000000 → w.heap.size ≤ W.heap.size → Calls Tryz.prog 38 #[.pointer (some ⟨w.heap.size, 0, none⟩), .int .u8 34] W fun e w' => e = .returned .nilIface ∧ Bd w.heap.size w.heap.size (l ++ [34]) w' ∧ Below w.heap.size W w') := fun l W h1 h2 h3 => wb_any _ _ l 34 W h1 h2 h3
  have HFT : Hid (∀ k, (flat (s.take k)).length ≤ 8000000) := fun k => by
    have := flat_len (s.take k)
    have h2 : (s.take k).length ≤ s.length := by rw [List.length_take]; omega
    show _ ≤ _
    omega
  by_cases hbare : s ≠ [] ∧ s.head? ≠ some 35 ∧ s.all bareB = true
  · have HQ : Hid (quoteL s = s) := by show _ = _; unfold quoteL; rw [if_pos hbare]
    obtain ⟨c0, s1, hse⟩ : ∃ c0 s1, s = c0 :: s1 := by cases s with
      | nil => exact absurd rfl hbare.1
      | cons c s => exact ⟨c, s, rfl⟩
    have h0l : 0 < s.length := by rw [hse]; simp
    have hx0 : (⟨s.toArray⟩ : ByteArray)[0]'(by rw [hz]; exact h0l) = c0 := by
      show s[0] = c0
      simp [hse]
    have hem : s.isEmpty = false := by rw [hse]; rfl
    have h35 : ((c0.toNat : Int) != 35) = true := by rw [bne_iff_ne]; intro h; exact hbare.2.1 (by rw [hse]; simp; exact u8_eq (by show _ = 35; omega))
    have hn := tw_all hbare.2.2
    rw [hn] at HBF
    rw [HQ.out]
    clear hse hbare hn HNW HWB HFT
    unfold str
    go_enter Tryz.func12, Tryz.ntmps12
    go_wp2_with fail
    refine HBF.out.mono ?_
    rintro e w1 ⟨rfl, hw⟩
    subst w1
    go_wp2
    go_ret
    exact ⟨rfl, Below.refl _ _⟩
  · have HQ : Hid (quoteL s = 34 :: (flat s ++ [34])) := by show _ = _; unfold quoteL; rw [if_neg hbare]
    rw [HQ.out]
    have hcs : s = [] ∨ s.isEmpty = false ∧ ∃ (c0 : UInt8) (h0 : 0 < (⟨s.toArray⟩ : ByteArray).size), (⟨s.toArray⟩ : ByteArray)[0]'h0 = c0 ∧ 0 < s.length ∧ (((c0.toNat : Int) != 35) = false ∨ (((c0.toNat : Int) != 35) = true ∧ ((((s.takeWhile bareB).length : Int) == (s.length : Int)) = false))) := by
      cases s with
      | nil => exact .inl rfl
      | cons c0 s1 =>
        refine .inr ⟨rfl, c0, by rw [hz]; simp, rfl, by simp, ?_⟩
        by_cases h35 : c0 = 35
        · exact .inl (by rw [h35]; rfl)
        · refine .inr ⟨by rw [bne_iff_ne]; intro h; exact h35 (u8_eq (by show _ = 35; omega)), ?_⟩
          rw [beq_eq_false_iff_ne]
          intro h
          exact hbare ⟨by simp, by simpa using h35, tw_full (by omega)⟩
    have HSPL := spelt_any
    clear hbare
    unfold str at *
    generalize (List.takeWhile bareB s).length = tn at *
    rcases hcs with hnil | ⟨hem, c0, h0, hx0, h0l, h35 | ⟨h35, htn⟩⟩
    · have hem : s.isEmpty = true := by rw [hnil]; rfl
      clear hnil
      go_enter Tryz.func12, Tryz.ntmps12
      go_wp2_with fail
      refine (HWB.out [] _ HNW.out.1 (by simp) (by simp)).mono ?_
      rintro e w1 ⟨rfl, hbd1, hB1⟩
      have HBD1 : Hid (Bd w.heap.size w.heap.size ([] ++ [34]) w1) := hbd1
      have HB1 : Hid (Below w.heap.size w w1) := HNW.out.2.trans hB1
      clear hbd1 hB1 HNW
      go_wp2
      go_loopw [23] (fun i wr => ∃ k : Nat, i = .int .i64 k ∧ k ≤ s.length ∧ Hid (Bd w.heap.size w.heap.size (34 :: flat (s.take k)) wr) ∧ Hid (Below w.heap.size w wr)) (fun i _ => s.length - (intOf i).toNat)
      case atStart => exact ⟨0, rfl, Nat.zero_le _, HBD1.out, HB1.out⟩
      case round =>
        obtain ⟨k, rfl, hk, HBD, HBE⟩ := hrel
        have hsz : w.heap.size ≤ wr.heap.size := HBE.out.size
        by_cases hlt : k < s.length
        · have hx : (⟨s.toArray⟩ : ByteArray)[k]'(by rw [hz]; exact hlt) = s[k] := rfl
          have HTK : Hid (s.take (k + 1) = s.take k ++ [s[k]]) := List.take_succ_eq_append_getElem hlt
          generalize s[k] = c at hx HTK
          have hf := HFT.out k
          have hsl := spell_len c
          have HBDn : Hid (∀ W, Below wr.heap.size wr W → Bd w.heap.size w.heap.size (34 :: flat (s.take k)) W) := fun W h => HBD.out.below h
          have HWS : Hid (∀ W, Below wr.heap.size wr W → Calls Tryz.prog 39 #[.pointer (some ⟨w.heap.size, 0, none⟩), .string ⟨(spell c).toArray⟩] W fun e w' => e = .returned (.tuple #[.int .i64 ((spell c).length : Int), .nilIface]) ∧ Bd w.heap.size w.heap.size (34 :: flat (s.take k) ++ spell c) w' ∧ Below w.heap.size W w') := fun W h => ws_any _ _ _ _ W (HBDn.out W h) (by simp; omega) (by omega) (Nat.le_trans hsz h.size)
          have HNX : Hid ((34 :: flat (s.take k) ++ spell c : Bs) = 34 :: flat (s.take (k + 1))) := by show _ = _; rw [HTK.out, flat_snoc]; rfl
          clear HTK hsl hf
          go_wp2_with (first
            | (go_at_call 40; refine (HSPL _ _).mono ?_; rintro e w2 ⟨rfl, hB2⟩)
            | (go_at_call 39; refine (HWS.out w2 hB2).mono ?_; rintro e w3 ⟨rfl, hbd3, hB3⟩))
          go_roundw
          case rel => exact ⟨k + 1, by go_num, by omega, by show Bd _ _ _ _; rw [← HNX.out]; exact hbd3, by show Below _ _ _; exact (HBE.out.trans (hB2.mono hsz)).trans hB3⟩
          case measure => simp [intOf]; omega
        · have hke : k = s.length := by omega
          have HBD2 : Hid (Bd w.heap.size w.heap.size (34 :: flat s) wr) := by
            have := HBD.out
            rwa [hke, List.take_length] at this
          have HF2 : Hid ((34 :: flat s).length ≤ 1000000000) := by
            have := HFT.out s.length
            rw [List.take_length] at this
            show _ ≤ _
            simp; omega
          clear hke HBD
          go_wp2_with (first
            | (go_at_call 38; refine (HWB.out _ _ HBD2.out HF2.out hsz).mono ?_; rintro e w2 ⟨rfl, hbd2, hB2⟩; have HBD3 : Hid (Bd w.heap.size w.heap.size (34 :: flat s ++ [34]) w2) := hbd2; have hs2 := Nat.le_trans hsz hB2.size)
            | (go_at_call 41; refine (bstr_any _ _ _ _ HBD3.out hs2).mono ?_; rintro e w3 ⟨rfl, hB3⟩))
          go_ret
          exact ⟨rfl, (HBE.out.trans hB2).trans hB3⟩
    · go_enter Tryz.func12, Tryz.ntmps12
      go_wp2_with fail
      refine (HWB.out [] _ HNW.out.1 (by simp) (by simp)).mono ?_
      rintro e w1 ⟨rfl, hbd1, hB1⟩
      have HBD1 : Hid (Bd w.heap.size w.heap.size ([] ++ [34]) w1) := hbd1
      have HB1 : Hid (Below w.heap.size w w1) := HNW.out.2.trans hB1
      clear hbd1 hB1 HNW
      go_wp2
      go_loopw [23] (fun i wr => ∃ k : Nat, i = .int .i64 k ∧ k ≤ s.length ∧ Hid (Bd w.heap.size w.heap.size (34 :: flat (s.take k)) wr) ∧ Hid (Below w.heap.size w wr)) (fun i _ => s.length - (intOf i).toNat)
      case atStart => exact ⟨0, rfl, Nat.zero_le _, HBD1.out, HB1.out⟩
      case round =>
        obtain ⟨k, rfl, hk, HBD, HBE⟩ := hrel
        have hsz : w.heap.size ≤ wr.heap.size := HBE.out.size
        by_cases hlt : k < s.length
        · have hx : (⟨s.toArray⟩ : ByteArray)[k]'(by rw [hz]; exact hlt) = s[k] := rfl
          have HTK : Hid (s.take (k + 1) = s.take k ++ [s[k]]) := List.take_succ_eq_append_getElem hlt
          generalize s[k] = c at hx HTK
          have hf := HFT.out k
          have hsl := spell_len c
          have HBDn : Hid (∀ W, Below wr.heap.size wr W → Bd w.heap.size w.heap.size (34 :: flat (s.take k)) W) := fun W h => HBD.out.below h
          have HWS : Hid (∀ W, Below wr.heap.size wr W → Calls Tryz.prog 39 #[.pointer (some ⟨w.heap.size, 0, none⟩), .string ⟨(spell c).toArray⟩] W fun e w' => e = .returned (.tuple #[.int .i64 ((spell c).length : Int), .nilIface]) ∧ Bd w.heap.size w.heap.size (34 :: flat (s.take k) ++ spell c) w' ∧ Below w.heap.size W w') := fun W h => ws_any _ _ _ _ W (HBDn.out W h) (by simp; omega) (by omega) (Nat.le_trans hsz h.size)
          have HNX : Hid ((34 :: flat (s.take k) ++ spell c : Bs) = 34 :: flat (s.take (k + 1))) := by show _ = _; rw [HTK.out, flat_snoc]; rfl
          clear HTK hsl hf
          go_wp2_with (first
            | (go_at_call 40; refine (HSPL _ _).mono ?_; rintro e w2 ⟨rfl, hB2⟩)
            | (go_at_call 39; refine (HWS.out w2 hB2).mono ?_; rintro e w3 ⟨rfl, hbd3, hB3⟩))
          go_roundw
          case rel => exact ⟨k + 1, by go_num, by omega, by show Bd _ _ _ _; rw [← HNX.out]; exact hbd3, by show Below _ _ _; exact (HBE.out.trans (hB2.mono hsz)).trans hB3⟩
          case measure => simp [intOf]; omega
        · have hke : k = s.length := by omega
          have HBD2 : Hid (Bd w.heap.size w.heap.size (34 :: flat s) wr) := by
            have := HBD.out
            rwa [hke, List.take_length] at this
          have HF2 : Hid ((34 :: flat s).length ≤ 1000000000) := by
            have := HFT.out s.length
            rw [List.take_length] at this
            show _ ≤ _
            simp; omega
          clear hke HBD
          go_wp2_with (first
            | (go_at_call 38; refine (HWB.out _ _ HBD2.out HF2.out hsz).mono ?_; rintro e w2 ⟨rfl, hbd2, hB2⟩; have HBD3 : Hid (Bd w.heap.size w.heap.size (34 :: flat s ++ [34]) w2) := hbd2; have hs2 := Nat.le_trans hsz hB2.size)
            | (go_at_call 41; refine (bstr_any _ _ _ _ HBD3.out hs2).mono ?_; rintro e w3 ⟨rfl, hB3⟩))
          go_ret
          exact ⟨rfl, (HBE.out.trans hB2).trans hB3⟩
    · go_enter Tryz.func12, Tryz.ntmps12
      go_wp2_with fail
      refine HBF.out.mono ?_
      rintro e w0 ⟨rfl, hw⟩
      subst w0
      go_wp2_with fail
      refine (HWB.out [] _ HNW.out.1 (by simp) (by simp)).mono ?_
      rintro e w1 ⟨rfl, hbd1, hB1⟩
      have HBD1 : Hid (Bd w.heap.size w.heap.size ([] ++ [34]) w1) := hbd1
      have HB1 : Hid (Below w.heap.size w w1) := HNW.out.2.trans hB1
      clear hbd1 hB1 HNW
      go_wp2
      go_loopw [23] (fun i wr => ∃ k : Nat, i = .int .i64 k ∧ k ≤ s.length ∧ Hid (Bd w.heap.size w.heap.size (34 :: flat (s.take k)) wr) ∧ Hid (Below w.heap.size w wr)) (fun i _ => s.length - (intOf i).toNat)
      case atStart => exact ⟨0, rfl, Nat.zero_le _, HBD1.out, HB1.out⟩
      case round =>
        obtain ⟨k, rfl, hk, HBD, HBE⟩ := hrel
        have hsz : w.heap.size ≤ wr.heap.size := HBE.out.size
        by_cases hlt : k < s.length
        · have hx : (⟨s.toArray⟩ : ByteArray)[k]'(by rw [hz]; exact hlt) = s[k] := rfl
          have HTK : Hid (s.take (k + 1) = s.take k ++ [s[k]]) := List.take_succ_eq_append_getElem hlt
          generalize s[k] = c at hx HTK
          have hf := HFT.out k
          have hsl := spell_len c
          have HBDn : Hid (∀ W, Below wr.heap.size wr W → Bd w.heap.size w.heap.size (34 :: flat (s.take k)) W) := fun W h => HBD.out.below h
          have HWS : Hid (∀ W, Below wr.heap.size wr W → Calls Tryz.prog 39 #[.pointer (some ⟨w.heap.size, 0, none⟩), .string ⟨(spell c).toArray⟩] W fun e w' => e = .returned (.tuple #[.int .i64 ((spell c).length : Int), .nilIface]) ∧ Bd w.heap.size w.heap.size (34 :: flat (s.take k) ++ spell c) w' ∧ Below w.heap.size W w') := fun W h => ws_any _ _ _ _ W (HBDn.out W h) (by simp; omega) (by omega) (Nat.le_trans hsz h.size)
          have HNX : Hid ((34 :: flat (s.take k) ++ spell c : Bs) = 34 :: flat (s.take (k + 1))) := by show _ = _; rw [HTK.out, flat_snoc]; rfl
          clear HTK hsl hf
          go_wp2_with (first
            | (go_at_call 40; refine (HSPL _ _).mono ?_; rintro e w2 ⟨rfl, hB2⟩)
            | (go_at_call 39; refine (HWS.out w2 hB2).mono ?_; rintro e w3 ⟨rfl, hbd3, hB3⟩))
          go_roundw
          case rel => exact ⟨k + 1, by go_num, by omega, by show Bd _ _ _ _; rw [← HNX.out]; exact hbd3, by show Below _ _ _; exact (HBE.out.trans (hB2.mono hsz)).trans hB3⟩
          case measure => simp [intOf]; omega
        · have hke : k = s.length := by omega
          have HBD2 : Hid (Bd w.heap.size w.heap.size (34 :: flat s) wr) := by
            have := HBD.out
            rwa [hke, List.take_length] at this
          have HF2 : Hid ((34 :: flat s).length ≤ 1000000000) := by
            have := HFT.out s.length
            rw [List.take_length] at this
            show _ ≤ _
            simp; omega
          clear hke HBD
          go_wp2_with (first
            | (go_at_call 38; refine (HWB.out _ _ HBD2.out HF2.out hsz).mono ?_; rintro e w2 ⟨rfl, hbd2, hB2⟩; have HBD3 : Hid (Bd w.heap.size w.heap.size (34 :: flat s ++ [34]) w2) := hbd2; have hs2 := Nat.le_trans hsz hB2.size)
            | (go_at_call 41; refine (bstr_any _ _ _ _ HBD3.out hs2).mono ?_; rintro e w3 ⟨rfl, hB3⟩))
          go_ret
          exact ⟨rfl, (HBE.out.trans hB2).trans hB3⟩
end Go.Proofs.YtbckogojnjmjcaaGreatDoor
namespace Go.Proofs.YtbckogojnjmjcaaGreatDoor
open Go.RowKit Go.Shelf

/-- A reply's words. -/
def repL (code : Int) (val : Bs) : Bs := if val = [] then wordOf 1 codesL code else wordOf 1 codesL code ++ [32] ++ quoteL val
theorem word_len6 (code : Int) : (wordOf 1 codesL code).length ≤ 10 := by
  unfold wordOf
  split
  · have key : ∀ k : Nat, (codesL.getD k []).length ≤ 10 := fun k => by
      by_cases hk : k < 10
      · have : k = 0 ∨ k = 1 ∨ k = 2 ∨ k = 3 ∨ k = 4 ∨ k = 5 ∨ k = 6 ∨ k = 7 ∨ k = 8 ∨ k = 9 := by omega
        rcases this with rfl | rfl | rfl | rfl | rfl | rfl | rfl | rfl | rfl | rfl <;> decide
      · rw [List.getD_eq_getElem?_getD, List.getElem?_eq_none (by simpa [codesL] using hk)]
        simp
    exact key _
  · decide
theorem repL_len (code : Int) (val : Bs) (h : val.length ≤ 2000000) : (repL code val).length ≤ 9000000 := by
  have h1 := word_len6 code
  unfold repL
  split
  · omega
  · have : (quoteL val).length ≤ 4 * val.length + 2 := by
      unfold quoteL
      split
      · omega
      · have := (flat_len val).2
        simp only [List.length_cons, List.length_append, List.length_nil]
        omega
    simp only [List.length_append, List.length_cons, List.length_nil]
    omega
set_option maxRecDepth 100000 in
set_option maxHeartbeats 4000000 in
theorem reply_any (code : Int) (val : Bs) (hl : val.length ≤ 2000000) (w : World) : Calls Tryz.prog 27 #[.agg #[.int .i64 code, .string ⟨val.toArray⟩]] w fun e w' => e = .returned (.string ⟨(repL code val).toArray⟩) ∧ Below w.heap.size w w' := by
  have h6 := word_len6 code
  have HRE : Hid (repL code val = if val = [] then wordOf 1 codesL code else wordOf 1 codesL code ++ [32] ++ quoteL val) := rfl
  have hq : (quoteL val).length ≤ 8000002 := by
    unfold quoteL
    split
    · omega
    · have := (flat_len val).2
      simp only [List.length_cons, List.length_append, List.length_nil]
      omega
  obtain ⟨W0, hW0⟩ : ∃ W0, w.alloc (.cells #[.int .i64 code, .string ⟨val.toArray⟩] 70) = W0 := ⟨_, rfl⟩
  have HB0 : Hid (Below w.heap.size w W0) := by show Below _ _ _; rw [← hW0]; exact (Below.refl _ _).alloc (Nat.le_refl _) _
  have hX0 : W0.heap[w.heap.size]? = some (.cells #[.int .i64 code, .string ⟨val.toArray⟩] 70 (0, 0)) := by rw [← hW0]; exact heap_alloc_new w _
  have HX0 : Hid (W0.heap[w.heap.size]? = some (.cells #[.int .i64 code, .string ⟨val.toArray⟩] 70 (0, 0))) := hX0
  have hlt : w.heap.size < W0.heap.size := (Array.getElem?_eq_some_iff.1 hX0).1
  have c0 : W0.cell? ⟨w.heap.size, 0, none⟩ = some (.int .i64 code) := by simp only [World.cell?, hX0]; rfl
  have HW0 : Hid (_ = W0) := hW0
  have HCO : Hid (∀ n, Calls Tryz.prog 62 #[] (W0.drewN n) fun e w' => ∃ g, e = .returned (.agg #[.int .i64 1, .slice (some ⟨g, 0, none⟩) 10 10]) ∧ Hid (g < w'.heap.size) ∧ Hid (StrAt w' g codesL) ∧ Hid (Below W0.heap.size W0 w') ∧ w'.cell? ⟨w.heap.size, 0, none⟩ = some (.int .i64 code)) := fun n => by
    refine (codes_at (W0.drewN n)).mono ?_
    rintro e w' ⟨g, h1, h2, h3, h4⟩
    have hb : Below W0.heap.size W0 w' := (drewB W0 n).trans h4
    exact ⟨g, h1, h2, h3, hb, (hb.cell (p := ⟨w.heap.size, 0, none⟩) hlt).trans c0⟩
  have HNW : Hid (∀ W g, g < W.heap.size → StrAt W g codesL → Calls Tryz.prog 63 #[.agg #[.int .i64 1, .slice (some ⟨g, 0, none⟩) 10 10], .int .i64 code] W fun e w' => e = .returned (.string ⟨(wordOf 1 codesL code).toArray⟩) ∧ Below W.heap.size W w') := fun W g h1 h2 => names_word W 1 (by decide) g 10 codesL (by decide) h1 h2 code
  generalize wordOf 1 codesL code = wd at *
  clear hX0 hW0
  go_enter Tryz.func27, Tryz.ntmps27
  go_upto_region 1 with fail
  rw [HW0.out]
  go_region_held3 (fun V => V.cell? ⟨w.heap.size, 0, none⟩ = some (.int .i64 code)) (go_keep)
    (first
      | (go_at_call 62; refine (HCO.out _).mono ?_; rintro e w5 ⟨g, rfl, HG, HS, HB5, c5⟩)
      | (go_at_call 63; refine (HNW.out _ g HG.out HS.out).mono ?_; rintro e w6 ⟨rfl, hB6⟩; have HB6 : Hid (Below W0.heap.size W0 w6) := HB5.out.trans (hB6.mono HB5.out.size); have c6 : w6.cell? ⟨w.heap.size, 0, none⟩ = some (.int .i64 code) := (HB6.out.cell (p := ⟨w.heap.size, 0, none⟩) hlt).trans c0)
      | fail)
  have HX6 : Hid (w6.heap[w.heap.size]? = some (.cells #[.int .i64 code, .string ⟨val.toArray⟩] 70 (0, 0))) := (HB6.out.block _ hlt).trans HX0.out
  have c1 : w6.cell? ⟨w.heap.size, 1, none⟩ = some (.string ⟨val.toArray⟩) := by have h0 := HX6.out; simp only [World.cell?, h0]; rfl
  have HBw : Hid (Below w.heap.size w w6) := HB0.out.trans (HB6.out.mono HB0.out.size)
  clear HCO HNW HW0 HX0 HB0 HS HG HB5 c5 c6 c0 hB6
  by_cases hv : val = []
  · have HE : Hid (repL code val = wd) := by show _ = _; rw [HRE.out, if_pos hv]
    subst hv
    clear HRE
    go_wp2
    go_ret
    exact ⟨by rw [HE.out]; rfl, HBw.out⟩
  · have HE : Hid (repL code val = wd ++ 32 :: quoteL val) := by show _ = _; rw [HRE.out, if_neg hv]; simp
    have hve : val.isEmpty = false := by cases val with | nil => exact absurd rfl hv | cons c q => rfl
    have HQ := quote_big val (by omega) w6
    unfold str at HQ
    clear hv HRE
    generalize quoteL val = qv at *
    have HJ := fun W => join2_any wd qv (by omega) (by omega) W
    go_wp2_with (first
      | (go_at_call 12; refine HQ.mono ?_; rintro e w7 ⟨rfl, hB7⟩)
      | (go_at_call 59; refine (HJ _).mono ?_; rintro e w8 ⟨rfl, hB8⟩))
    go_ret
    exact ⟨by rw [HE.out]; rfl, (HBw.out.trans (hB7.mono HBw.out.size)).trans (hB8.mono (by have := HBw.out.size; have := hB7.size; omega))⟩
end Go.Proofs.YtbckogojnjmjcaaGreatDoor
