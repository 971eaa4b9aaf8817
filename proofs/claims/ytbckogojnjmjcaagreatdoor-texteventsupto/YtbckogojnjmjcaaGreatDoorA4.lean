/-
  What a quoted word holds.
-/
import Derived.Test.YtbckogojnjmjcaaGreatDoorA3
import Derived.Test.YtbckogojnjmjcaaGreatDoorRw
namespace Go.Proofs.YtbckogojnjmjcaaGreatDoor
open Go.RowKit Go.Shelf

def strLen (v : Value) : Nat := match v with
  | .string b => b.size
  | _ => 0
theorem strLen_mk (l : Bs) : strLen (.string ⟨l.toArray⟩) = l.length := by show l.toArray.size = _; simp
/-- A builder of the call's own that holds these bytes. -/
def Bd (B b : Nat) (l : Bs) (W : World) : Prop := Lib.IsBuilder 94 5 B b (Lib.byteCells l) W
theorem bAt_below {B b : Nat} {p : Value} {bs : List Value} {W W' : World} (h : Lib.BuilderAt 94 5 B b p bs W) (hB : Below W.heap.size W W') : Lib.BuilderAt 94 5 B b p bs W' := by
  obtain ⟨h1, v, h2, h3, h4⟩ := h
  exact ⟨h1, v, (hB.block _ (Array.getElem?_eq_some_iff.1 h2).1).trans h2, row_below h3 hB, h4⟩
theorem Bd.below {B b : Nat} {l : Bs} {W W' : World} (h : Bd B b l W) (hB : Below W.heap.size W W') : Bd B b l W' := h.imp (fun k => bAt_below k hB) (fun k => bAt_below k hB)
theorem Bd.new (w : World) : Bd w.heap.size w.heap.size [] (w.alloc (.cells #[.pointer none, .slice none 0 0] 94)) := Lib.fresh_isBuilder _ _ w
theorem wb_any (B b : Nat) (l : Bs) (c : UInt8) (W : World) (h : Bd B b l W) (hl : l.length ≤ 1000000000) (hBW : B ≤ W.heap.size) : Calls Tryz.prog 38 #[.pointer (some ⟨b, 0, none⟩), .int .u8 (c.toNat : Int)] W fun e w' => e = .returned .nilIface ∧ Bd B b (l ++ [c]) w' ∧ Below B W w' := by
  have k := Any.Builder_WriteByte Tryz.laysWB extraB B b (Lib.byteCells l) (c.toNat : Int) W h (by simp [Lib.byteCells]; omega) hBW
  rw [fWB] at k
  refine k.mono ?_
  rintro e w' ⟨he, hA, hB⟩
  refine ⟨he, .inr ?_, hB⟩
  have : Lib.byteCells (l ++ [c]) = Lib.byteCells l ++ [.int .u8 (c.toNat : Int)] := by simp [Lib.byteCells]
  rw [this]
  exact hA
theorem ws_any (B b : Nat) (l s : Bs) (W : World) (h : Bd B b l W) (hl : l.length ≤ 1000000000) (hs : s.length ≤ 1000000000) (hBW : B ≤ W.heap.size) : Calls Tryz.prog 39 #[.pointer (some ⟨b, 0, none⟩), str s] W fun e w' => e = .returned (.tuple #[.int .i64 (s.length : Int), .nilIface]) ∧ Bd B b (l ++ s) w' ∧ Below B W w' := by
  have hz : (⟨s.toArray⟩ : ByteArray).size = s.length := by show s.toArray.size = _; simp
  have k := Any.Builder_WriteString Tryz.laysWS extraB B b (Lib.byteCells l) ⟨s.toArray⟩ W h (by rw [hz]; simp [Lib.byteCells]; omega) hBW
  rw [fWS, hz] at k
  refine k.mono ?_
  rintro e w' ⟨he, hA, hB⟩
  refine ⟨he, .inr ?_, hB⟩
  have : Lib.byteCells (l ++ s) = Lib.byteCells l ++ Lib.strCells ⟨s.toArray⟩ := by simp [Lib.byteCells, Lib.strCells]
  rw [this]
  exact hA
theorem bstr_any (B b : Nat) (l : Bs) (W : World) (h : Bd B b l W) (hBW : B ≤ W.heap.size) : Calls Tryz.prog 41 #[.pointer (some ⟨b, 0, none⟩)] W fun e w' => e = .returned (str l) ∧ Below B W w' := by
  have k := Any.Builder_String_any Tryz.laysStr extraB B b l W h hBW
  rw [fStr] at k
  exact k
theorem emp {s : Bs} (h : s ≠ []) : s.isEmpty = false := by
  cases s with
  | nil => exact absurd rfl h
  | cons _ _ => rfl
theorem no_flat_nil {h s g r : Bs} (e : flat h ++ [] = s) : s ≠ flat g ++ 34 :: r := by
  rintro rfl
  obtain ⟨g', -, e2⟩ := flat_cut h e
  simp at e2
theorem no_flat {h s s' g r : Bs} (e : flat h ++ s' = s) (h34 : s'.head? ≠ some 34) (hn : ∀ c, ¬ spell c <+: s') : s ≠ flat g ++ 34 :: r := by
  rintro rfl
  obtain ⟨g', -, e2⟩ := flat_cut h e
  cases g' with
  | nil => rw [e2] at h34; exact h34 rfl
  | cons c g' => exact hn c ⟨_, by rw [e2, flat_cons, List.append_assoc]⟩
/-- What takeQuoted answers. -/
def TqR (s : Bs) (e : Ending) : Prop := (∃ h r, s = flat h ++ 34 :: r ∧ e = .returned (.tuple #[str h, str r, .bool true])) ∨ ((∀ h r, s ≠ flat h ++ 34 :: r) ∧ e = .returned (.tuple #[str [], str [], .bool false]))
set_option maxRecDepth 100000 in
theorem takeQuoted_any (s : Bs) (hl : s.length ≤ 1000000) (w : World) (hv : Vars w) : Calls Tryz.prog 68 #[str s] w fun e w' => TqR s e ∧ Below w.heap.size w w' := by
  have HNW : Hid (Bd w.heap.size w.heap.size [] (w.alloc (.cells #[.pointer none, .slice none 0 0] 94)) ∧ Below w.heap.size w (w.alloc (.cells #[.pointer none, .slice none 0 0] 94))) := ⟨Bd.new w, (Below.refl _ _).alloc (Nat.le_refl _) _⟩
  have HVA : Hid (∀ W, Below w.heap.size w W → Vars W) := fun W h => hv.below h
  have HV : Hid (Vars w) := hv
  clear hv
  unfold str
  go_enter Tryz.func68, Tryz.ntmps68
  go_wp2
  go_loopw [0] (fun v wr => ∃ (h s' : Bs), v = .string ⟨s'.toArray⟩ ∧ Hid (flat h ++ s' = s) ∧ Bd w.heap.size w.heap.size h wr ∧ Below w.heap.size w wr) (fun v _ => strLen v)
  case atStart => exact ⟨[], s, rfl, rfl, HNW.out.1, HNW.out.2⟩
  case round =>
    obtain ⟨h, s', rfl, hfl, hbd, hbel⟩ := hrel
    have HFL : Hid (flat h ++ s' = s) := hfl
    have HBD : Hid (Bd w.heap.size w.heap.size h wr) := hbd
    have HBE : Hid (Below w.heap.size w wr) := hbel
    have hsz : w.heap.size ≤ wr.heap.size := hbel.size
    clear hfl hbd hbel HNW
    have hz : (⟨s'.toArray⟩ : ByteArray).size = s'.length := by show s'.toArray.size = _; simp
    by_cases hnil : s' = []
    · subst hnil
      have HNO : Hid (∀ g r, s ≠ flat g ++ 34 :: r) := fun g r => no_flat_nil HFL.out
      go_wp2
      go_ret3
      exact ⟨.inr ⟨HNO.out, rfl⟩, HBE.out⟩
    obtain ⟨c0, s1, hse⟩ : ∃ c0 s1, s' = c0 :: s1 := by cases s' with
      | nil => exact absurd rfl hnil
      | cons c s => exact ⟨c, s, rfl⟩
    have hem := emp hnil
    have h0l : 0 < s'.length := by rw [hse]; simp
    have hx0 : (⟨s'.toArray⟩ : ByteArray)[0]'(by rw [hz]; exact h0l) = c0 := by
      show s'[0] = c0
      simp [hse]
    have HSE : Hid (s' = c0 :: s1) := hse
    have hll : s'.length ≤ 1000000 ∧ h.length ≤ 1000000 := by
      have e := congrArg List.length HFL.out
      rw [List.length_append] at e
      have := flat_len h
      omega
    clear hse
    by_cases h34 : c0 = 34
    · subst h34
      have hext : (⟨s'.toArray⟩ : ByteArray).extract 1 s'.length = ⟨s1.toArray⟩ := by rw [ext_eq, HSE.out]; simp
      go_wp2
      have HST : Calls Tryz.prog 41 #[.pointer (some ⟨w.heap.size, 0, none⟩)] wr.drew fun e w' => e = .returned (.string ⟨h.toArray⟩) ∧ Below w.heap.size wr.drew w' := bstr_any w.heap.size w.heap.size h wr.drew HBD.out hsz
      go_region_with (go_at_call 41; refine HST.mono ?_; rintro e w1 ⟨rfl, hB1⟩)
      all_goals (
        have HB1 : Hid (Below w.heap.size w w1) := HBE.out.drew.trans hB1
        have HRES : Hid (s = flat h ++ 34 :: s1) := by show _ = _; rw [← HFL.out, HSE.out]
        go_wp2
        go_ret3
        exact ⟨.inl ⟨h, s1, HRES.out, rfl⟩, HB1.out⟩)
    · have h1 : ((c0.toNat : Int) == 34) = false := by rw [beq_eq_false_iff_ne]; intro h; exact h34 (u8_eq (by show _ = 34; omega))
      have HTB := takeByte_any s' hnil (by omega) wr (HVA.out wr HBE.out)
      unfold str at HTB
      go_wp2_with fail
      refine HTB.mono ?_
      rintro e w1 ⟨⟨c, hp, rfl⟩ | ⟨hn, rfl⟩, hB1⟩
      · obtain ⟨r', hr⟩ := hp
        have HR : Hid (s' = spell c ++ r') := hr.symm
        have hsl := spell_len c
        have hsl2 : (spell c).length ≤ s'.length := by rw [← hr]; simp
        have hext : (⟨s'.toArray⟩ : ByteArray).extract (spell c).length s'.length = ⟨r'.toArray⟩ := by rw [ext_eq, List.take_length, ← hr, List.drop_left]
        have HN : Hid (flat (h ++ [c]) ++ r' = s) := by show _ = _; rw [flat_snoc, List.append_assoc, hr, HFL.out]
        have HLT : Hid (r'.length < s'.length) := by show _ < _; rw [← hr, List.length_append]; omega
        have HWB := fun W hW => wb_any w.heap.size w.heap.size h c W hW (by omega)
        have HBD1 : Hid (Bd w.heap.size w.heap.size h w1) := HBD.out.below hB1
        have hs1 : w.heap.size ≤ w1.heap.size := Nat.le_trans hsz hB1.size
        have HB1 : Hid (Below w.heap.size w w1) := HBE.out.trans (hB1.mono hsz)
        generalize (spell c).length = n at *
        clear hr hB1 HTB
        go_wp2_with (go_at_call 38; refine (HWB _ HBD1.out hs1).mono ?_; rintro e w2 ⟨rfl, hbd2, hB2⟩)
        go_roundw
        case rel => exact ⟨h ++ [c], r', rfl, HN.out, hbd2, HB1.out.trans hB2⟩
        case measure =>
          show strLen (.string ⟨r'.toArray⟩) < strLen (.string ⟨s'.toArray⟩)
          rw [strLen_mk, strLen_mk]
          exact HLT.out
      · have HNO : Hid (∀ g r, s ≠ flat g ++ 34 :: r) := fun g r => no_flat HFL.out (by rw [HSE.out]; simpa using h34) hn
        go_wp2
        go_ret3
        exact ⟨.inr ⟨HNO.out, rfl⟩, HBE.out.trans (hB1.mono hsz)⟩
end Go.Proofs.YtbckogojnjmjcaaGreatDoor
