/-
  The names of segments: Name, Number. Number of a name: the loop over its digits.
-/
import Derived.Test.YtnahghldlkjleaaGreatDoorLNam
import Derived.Test.YtnahghldlkjleaaGreatDoorNum
import Derived.Test.YtnahghldlkjleaaGreatDoorJDa
import Derived.Lib.SmallJoins
import Derived.Shelf.Lay
import Derived.Shelf.Strconv.Itoa3
import Derived.Shelf.Strings.Repeat
import Derived.Shelf.Small.Wraps
namespace Go.Proofs.YtnahghldlkjleaaGreatDoor
open Go.RowKit Go.Shelf
set_option linter.unusedVariables false

theorem fItoa : Tryz.laysItoa_ren.f 171 = 103 := by kernel_rfl
theorem fRepeat : Tryz.laysRepeat_ren.f 105 = 104 := by kernel_rfl
theorem fCutP : Tryz.laysCutP_ren.f 103 = 72 := by kernel_rfl
theorem extraB : Builder.Extra Tryz.prog Tryz.laysRepeat_ren where
  sizeBuilder := by kernel_rfl
  liesBuilder := by kernel_rfl
  t5 := Tryz.laysRepeat.t5
  a5 := Tryz.laysRepeat.a5
  z5 := Tryz.laysRepeat.z5
  v5 := Tryz.laysRepeat.v5
  infoByte := by kernel_rfl
  cellsByte := by kernel_rfl
  sizeByte := by kernel_rfl
  neB5 := by decide
/-- The library's table reads as it was laid. -/
structure Vars (w : World) : Prop where
  pow : Lib.TabIs Tryz.prog w "internal/strconv.uint64pow10" .u64 Lib.pow10Tab
theorem gPow : (Tryz.prog.globalNamed "internal/strconv.uint64pow10").isSome = true := by kernel_rfl
theorem Vars.below {w w' : World} (h : Vars w) (hB : Below w.heap.size w w') : Vars w' := by
  obtain ⟨g1, h1⟩ := Option.isSome_iff_exists.1 gPow
  exact ⟨Joins.tab_stays h1 h.pow hB (Nat.le_refl _)⟩

/-! ### plainly -/
/-- The name of a segment. -/
def nmL (n : Nat) : List UInt8 := [119, 97, 108, 45] ++ low 8 n
/-- The number that a name tells; 0: none. -/
def numL (l : List UInt8) : Nat := if l.length = 12 ∧ l.take 4 = [119, 97, 108, 45] ∧ (l.drop 4).all isDg = true then valL 0 (l.drop 4) else 0
theorem valL_acc : ∀ (l : List UInt8) (acc : Nat), valL acc l = acc * 10 ^ l.length + valL 0 l
  | [], acc => by simp [valL]
  | c :: r, acc => by
    have e1 : ∀ a, valL a (c :: r) = valL (a * 10 + (c.toNat - 48)) r := fun _ => rfl
    rw [e1, e1, valL_acc r (acc * 10 + (c.toNat - 48)), valL_acc r (0 * 10 + (c.toNat - 48)), List.length_cons, Nat.pow_succ]
    simp only [Nat.add_mul, Nat.zero_mul, Nat.zero_add, Nat.mul_assoc, Nat.mul_comm 10]
    omega
theorem dg_low : ∀ (l : List UInt8) (acc : Nat), (∀ c ∈ l, isDg c = true) → low l.length (valL acc l) = l
  | [], acc, _ => rfl
  | c :: r, acc, h => by
    have ih := dg_low r (acc * 10 + (c.toNat - 48)) (fun x hx => h x (List.mem_cons_of_mem _ hx))
    have hv : valL acc (c :: r) = valL (acc * 10 + (c.toNat - 48)) r := rfl
    rw [List.length_cons, low_succ, hv, ih]
    congr 1
    have hc : isDg c = true := h c (List.mem_cons_self ..)
    unfold isDg at hc
    simp only [Bool.and_eq_true, decide_eq_true_eq] at hc
    have hr : ∀ x ∈ r, isDg x = true := fun x hx => h x (List.mem_cons_of_mem _ hx)
    have h1 := valL_lt r 0 hr
    rw [Nat.zero_add, Nat.one_mul] at h1
    unfold Lib.dg
    have h2 : valL (acc * 10 + (c.toNat - 48)) r / 10 ^ r.length = acc * 10 + (c.toNat - 48) := by
      rw [valL_acc r, Nat.add_comm, Nat.add_mul_div_right _ _ (Nat.pow_pos (by omega)), Nat.div_eq_of_lt h1, Nat.zero_add]
    rw [h2]
    have h3 : 48 + (acc * 10 + (c.toNat - 48)) % 10 = c.toNat := by omega
    rw [h3]
    simp
theorem val_before : ∀ (a b : List UInt8), a.length = b.length → (∀ c ∈ a, isDg c = true) → (∀ c ∈ b, isDg c = true) → bytesBefore a b = true → valL 0 a < valL 0 b
  | [], [], _, _, _, h => by simp [bytesBefore] at h
  | [], y :: t, hl, _, _, _ => by simp at hl
  | x :: s, [], hl, _, _, _ => by simp at hl
  | x :: s, y :: t, hl, ha, hb, h => by
    have hl' : s.length = t.length := by simpa using hl
    have hx : isDg x = true := ha x (List.mem_cons_self ..)
    have hy : isDg y = true := hb y (List.mem_cons_self ..)
    have hs : ∀ c ∈ s, isDg c = true := fun c hc => ha c (List.mem_cons_of_mem _ hc)
    have ht : ∀ c ∈ t, isDg c = true := fun c hc => hb c (List.mem_cons_of_mem _ hc)
    unfold isDg at hx hy
    simp only [Bool.and_eq_true, decide_eq_true_eq] at hx hy
    have e1 : ∀ (c : UInt8) (r : List UInt8), valL 0 (c :: r) = (c.toNat - 48) * 10 ^ r.length + valL 0 r := fun c r => by
      have : valL 0 (c :: r) = valL (0 * 10 + (c.toNat - 48)) r := rfl
      rw [this, valL_acc]; simp
    rw [e1, e1, hl']
    have h1 := valL_lt s 0 hs
    rw [Nat.zero_add, Nat.one_mul, hl'] at h1
    simp only [bytesBefore] at h
    by_cases hxy : x = y
    · subst hxy
      have h2 : bytesBefore s t = true := by simpa using h
      have := val_before s t hl' hs ht h2
      omega
    · have hlt : x.toNat < y.toNat := by
        have hn : ¬ x.toNat = y.toNat := fun e => hxy (UInt8.toNat_inj.1 e)
        simp [hxy] at h
        have := h
        simp [UInt8.lt_iff_toNat_lt] at this
        omega
      have : (x.toNat - 48 + 1) * 10 ^ t.length ≤ (y.toNat - 48) * 10 ^ t.length := Nat.mul_le_mul_right _ (by omega)
      rw [Nat.add_mul, Nat.one_mul] at this
      omega
theorem before_app : ∀ (p a b : List UInt8), bytesBefore (p ++ a) (p ++ b) = bytesBefore a b
  | [], a, b => rfl
  | x :: p, a, b => by simp only [List.cons_append, bytesBefore]; simp [before_app p a b]
theorem nmL_len (n : Nat) : (nmL n).length = 12 := by simp [nmL, low_len]
theorem num_nm {n : Nat} (h : n ≤ 99999999) : numL (nmL n) = n := by
  have h1 : (nmL n).drop 4 = low 8 n := rfl
  have h2 : valL 0 (low 8 n) = n := by
    rw [val_low, Nat.mod_eq_of_lt (by omega)]; omega
  unfold numL
  rw [h1, h2, if_pos ⟨nmL_len n, rfl, low_dg 8 n⟩]
theorem num_le (l : List UInt8) : numL l ≤ 99999999 := by
  unfold numL
  split
  · rename_i hc
    obtain ⟨h1, h2, h3⟩ := hc
    have h5 : (l.drop 4).length = 8 := by rw [List.length_drop]; omega
    have := valL_lt (l.drop 4) 0 (by simpa using h3)
    rw [h5] at this
    omega
  · omega
theorem nm_num {l : List UInt8} (h : 0 < numL l) : nmL (numL l) = l := by
  unfold numL at h ⊢
  split at h
  · rename_i hc
    obtain ⟨h1, h2, h3⟩ := hc
    rw [if_pos ⟨h1, h2, h3⟩]
    have h5 : (l.drop 4).length = 8 := by rw [List.length_drop]; omega
    have h6 := dg_low (l.drop 4) 0 (fun c hc => List.all_eq_true.1 h3 c hc)
    rw [h5] at h6
    unfold nmL
    rw [h6, ← h2, List.take_append_drop]
  · omega

/-! ### the program's -/
theorem itoa_any (n : Nat) (h2 : n ≤ 4611686018427387904) (w : World) (hv : Vars w) : Calls Tryz.prog 103 #[.int .i64 (n : Int)] w fun e w' => e = .returned (.string ⟨(Lib.decDigits n).toArray⟩) ∧ Below w.heap.size w w' := by
  have h := Any.strconv_Itoa Tryz.laysItoa (n : Int) (by omega) (by omega) w hv.pow
  rw [fItoa, Lib.itoa_nonneg] at h
  refine h.mono ?_
  rintro e w' ⟨rfl, k, os, rfl⟩
  exact ⟨rfl, ⟨rfl, rfl, rfl, by show w.heap.size ≤ (w.heap ++ os).size; simp, fun i hi => by show (w.heap ++ os)[i]? = _; rw [Array.getElem?_append_left hi]⟩⟩
theorem repeat_any (c : Nat) (hc : c ≤ 100) (w : World) : Calls Tryz.prog 104 #[.string ⟨#[48]⟩, .int .i64 (c : Int)] w fun e w' => e = .returned (.string ⟨(List.replicate c (48 : UInt8)).toArray⟩) ∧ Below w.heap.size w w' := by
  have hb : 1 * c ≤ 140737488355328 := by omega
  have h := Any.strings_Repeat Tryz.laysRepeat extraB ⟨#[48]⟩ c w (by omega) (by show 1 * c ≤ _; exact hb)
  rw [fRepeat] at h
  refine h.mono fun e w' ⟨he, hw⟩ => ⟨?_, hw⟩
  rw [he]
  have e : Lib.repeatL (ByteArray.mk #[48]).data.toList c = List.replicate c 48 := by
    have := Lib.repeatL_replicate 48 1 c
    simpa using this
  rw [e]
theorem cutp_any (l : List UInt8) (w : World) : Calls Tryz.prog 72 #[.string ⟨l.toArray⟩, .string ⟨#[119, 97, 108, 45]⟩] w fun e w' => e = .returned (.tuple #[.string ⟨(Lib.trimPrefix l [119, 97, 108, 45]).toArray⟩, .bool (Lib.hasPrefix l [119, 97, 108, 45])]) ∧ w' = w := by
  have h := Any.strings_CutPrefix Tryz.laysCutP ⟨l.toArray⟩ ⟨#[119, 97, 108, 45]⟩ w
  rw [fCutP] at h
  refine h.mono fun e w' ⟨he, hw⟩ => ⟨?_, hw⟩
  rw [he]
theorem pre4 (l : List UInt8) : Lib.hasPrefix l [119, 97, 108, 45] = true ↔ l.take 4 = [119, 97, 108, 45] := by
  rw [Lib.hasPrefix, List.isPrefixOf_iff_prefix, List.prefix_iff_eq_take]
  exact ⟨fun h => h.symm, fun h => h.symm⟩

set_option maxRecDepth 100000 in
set_option maxHeartbeats 400000 in
theorem nameOf_any (n : Nat) (h2 : n ≤ 99999999) (w : World) (hv : Vars w) : Calls Tryz.prog 71 #[.int .i64 (n : Int)] w fun e w' => e = .returned (.string ⟨(nmL n).toArray⟩) ∧ Below w.heap.size w w' := by
  have hit := itoa_any n (by omega) w hv
  have hlt : n < 10 ^ 8 := by simp only [Nat.reducePow]; omega
  have hnd : Lib.nDigits n ≤ 7 + 1 := nDigits_le 7 n hlt
  have hdl : (Lib.decDigits n).length = Lib.nDigits n := Lib.decDigits_length n
  have hlo : low (7 + 1) n = List.replicate (7 + 1 - Lib.nDigits n) 48 ++ Lib.decDigits n := low_eq hlt
  have HN : nmL n = [119, 97, 108, 45] ++ (List.replicate (7 + 1 - Lib.nDigits n) 48 ++ Lib.decDigits n) := by unfold nmL; rw [← hlo]
  rw [HN]
  obtain ⟨c, hc⟩ : ∃ c, 7 + 1 - Lib.nDigits n = c := ⟨_, rfl⟩
  rw [hc]
  clear HN hlo hlt hv
  obtain ⟨dd, hdd⟩ : ∃ dd, Lib.decDigits n = dd := ⟨_, rfl⟩
  rw [hdd] at hit hdl ⊢
  clear hdd
  obtain ⟨nd, hn⟩ : ∃ nd, Lib.nDigits n = nd := ⟨_, rfl⟩
  rw [hn] at hnd hdl hc
  clear hn
  have hw : IntKind.i64.wrap (8 - (dd.length : Int)) = (c : Int) := by rw [IntKind.wrap_i64]; omega
  have hmx : max (0 : Int) (c : Int) = (c : Int) := by omega
  have hc9 : c ≤ 100 := by omega
  have hdl9 : dd.length ≤ 100 := by omega
  have hrep := fun w1 => repeat_any c hc9 w1
  have HR : Hid (c ≤ 100 ∧ dd.length ≤ 100) := ⟨hc9, hdl9⟩
  clear h2 hnd hc hdl hc9 hdl9
  go_enter Tryz.func71, Tryz.ntmps71
  go_wp2_with (first
    | (go_at_call 103; refine hit.mono ?_; rintro e w1 ⟨rfl, hB1⟩)
    | (go_at_call 104; refine (hrep w1).mono ?_; rintro e w2 ⟨rfl, hB2⟩)
    | fail)
  all_goals first
    | (exfalso; have := HR.out; omega)
    | skip
  go_ret
  refine ⟨?_, hB1.trans (hB2.mono hB1.size)⟩
  show Ending.returned (Value.string _) = _
  congr 2
theorem name_any (n : Int) (w : World) (hv : Vars w) : Calls Tryz.prog 26 #[.int .i64 n] w fun e w' => e = .returned (if 1 ≤ n ∧ n ≤ 99999999 then .tuple #[.string ⟨(nmL n.toNat).toArray⟩, .int .i64 0] else .tuple #[.string ⟨#[]⟩, .int .i64 1]) ∧ Below w.heap.size w w' := by
  by_cases h1 : 1 ≤ n
  · by_cases h2 : n ≤ 99999999
    · rw [if_pos ⟨h1, h2⟩]
      obtain ⟨k, rfl⟩ : ∃ k : Nat, n = (k : Int) := ⟨n.toNat, by omega⟩
      have hno := nameOf_any k (by omega) w hv
      rw [Int.toNat_natCast]
      have d1 : decide ((k : Int) < 1) = false := by simp; omega
      have d2 : decide ((k : Int) > 99999999) = false := by simp; omega
      clear h1 h2
      go_enter Tryz.func26, Tryz.ntmps26
      go_wp2_with (first
        | (go_at_call 71; refine hno.mono ?_; rintro e w1 ⟨rfl, hB1⟩)
        | fail)
      go_ret2
      exact ⟨rfl, hB1⟩
    · rw [if_neg (by omega)]
      have d1 : decide (n < 1) = false := by simp; omega
      have d2 : decide (n > 99999999) = true := by simp; omega
      clear h1 h2
      go_enter Tryz.func26, Tryz.ntmps26
      go_wp2
      go_ret2
      exact ⟨rfl, Below.refl _ _⟩
  · rw [if_neg (by omega)]
    have d1 : decide (n < 1) = true := by simp; omega
    clear h1
    go_enter Tryz.func26, Tryz.ntmps26
    go_wp2
    go_ret2
    exact ⟨rfl, Below.refl _ _⟩
end Go.Proofs.YtnahghldlkjleaaGreatDoor
namespace Go.Proofs.YtnahghldlkjleaaGreatDoor
open Go.RowKit Go.Shelf
set_option linter.unusedVariables false

theorem idx_s {s : List UInt8} {k : Nat} {c : UInt8} (h : s[k]? = some c) : ∃ hk : k < (⟨s.toArray⟩ : ByteArray).size, (⟨s.toArray⟩ : ByteArray)[k]'hk = c := by
  obtain ⟨h1, h2⟩ := List.getElem?_eq_some_iff.1 h
  exact ⟨by show k < s.toArray.size; simpa using h1, h2⟩
theorem drop_c {s : List UInt8} {k : Nat} (hk : k < s.length) : ∃ c, s[k]? = some c ∧ s.drop k = c :: s.drop (k + 1) := ⟨s[k], List.getElem?_eq_getElem hk, List.drop_eq_getElem_cons hk⟩
theorem valL_snoc (a : Nat) (l : List UInt8) (c : UInt8) : valL a (l ++ [c]) = valL a l * 10 + (c.toNat - 48) := by simp [valL]
set_option maxRecDepth 100000 in
set_option maxHeartbeats 1000000 in
theorem number_any (l : List UInt8) (w : World) : Calls Tryz.prog 27 #[.string ⟨l.toArray⟩] w fun e w' => e = .returned (.tuple #[.int .i64 (numL l : Int), .bool (decide (0 < numL l))]) ∧ ∃ n, w' = w.drewN n := by
  have hcp := cutp_any l w
  by_cases hp : Lib.hasPrefix l [119, 97, 108, 45] = true
  · have ht : Lib.trimPrefix l [119, 97, 108, 45] = l.drop 4 := by rw [Lib.trimPrefix, if_pos hp]; rfl
    rw [hp, ht] at hcp
    have hp4 := (pre4 l).1 hp
    have hl4 : 4 ≤ l.length := by
      have := congrArg List.length hp4
      simp at this
      omega
    obtain ⟨t, hte⟩ : ∃ t, l.drop 4 = t := ⟨_, rfl⟩
    rw [hte] at hcp
    by_cases h8 : t.length = 8
    · have h12 : l.length = 12 := by rw [← hte, List.length_drop] at h8; omega
      have hN : numL l = if t.all isDg = true then valL 0 t else 0 := by
        unfold numL
        rw [hte]
        by_cases hd : t.all isDg = true
        · rw [if_pos ⟨h12, hp4, hd⟩, if_pos hd]
        · rw [if_neg (fun h => hd h.2.2), if_neg hd]
      have HN : Hid (numL l = if t.all isDg = true then valL 0 t else 0) := hN
      obtain ⟨R, hR⟩ : ∃ R, numL l = R := ⟨_, rfl⟩
      rw [hR] at HN ⊢
      have hlen : ((t.length : Int) != 8) = false := by simp; omega
      have H8 : Hid (t.length = 8) := h8
      clear hN hp4 hl4 hp ht hte h12 hR h8
      go_enter Tryz.func27, Tryz.ntmps27
      go_wp2_with (first
        | (go_at_call 72; refine hcp.mono ?_; rintro e w1 ⟨rfl, rfl⟩)
        | fail)
      go_loopw [6, 22] (fun n k wr => ∃ j : Nat, k = .int .i64 j ∧ j ≤ t.length ∧ n = .int .i64 (valL 0 (t.take j) : Int) ∧ Hid ((t.take j).all isDg = true) ∧ wr = w1) (fun _ k _ => t.length - (intOf k).toNat)
      case atStart => exact ⟨0, rfl, Nat.zero_le _, rfl, rfl, rfl⟩
      case round =>
        obtain ⟨j, rfl, hj, rfl, HD, hwr⟩ := hrel
        have HWR : Hid (wr = w1) := hwr
        clear hwr
        have H8' := H8.out
        by_cases hjt : j < t.length
        · obtain ⟨c, hck, hdk⟩ := drop_c hjt
          obtain ⟨hkz, hxk⟩ := idx_s hck
          have hcl := c.toNat_lt
          have HCM : Hid (c ∈ t) := List.mem_of_getElem? hck
          have HTK : Hid (t.take (j + 1) = t.take j ++ [c]) := by show _ = _; rw [List.take_add_one, hck]; rfl
          have HVB : Hid (valL 0 (t.take j) ≤ 10000000) := by
            show _ ≤ _
            have h1 := valL_lt (t.take j) 0 (by simpa using HD.out)
            have h2 : (t.take j).length ≤ 7 := by rw [List.length_take]; omega
            have h3 : 10 ^ (t.take j).length ≤ 10 ^ 7 := Nat.pow_le_pow_right (by decide) h2
            omega
          clear hck hdk H8'
          by_cases h1 : c.toNat < 48
          · have HR : Hid (R = 0) := by
              show _ = _
              rw [HN.out, if_neg (fun h => by have := List.all_eq_true.1 h c HCM.out; simp only [isDg, Bool.and_eq_true, decide_eq_true_eq] at this; omega)]
            go_wp2
            go_ret2
            exact ⟨by rw [HR.out]; rfl, 0, HWR.out⟩
          by_cases h2 : 57 < c.toNat
          · have HR : Hid (R = 0) := by
              show _ = _
              rw [HN.out, if_neg (fun h => by have := List.all_eq_true.1 h c HCM.out; simp only [isDg, Bool.and_eq_true, decide_eq_true_eq] at this; omega)]
            go_wp2
            go_ret2
            exact ⟨by rw [HR.out]; rfl, 0, HWR.out⟩
          have hv := HVB.out
          have HDS : Hid ((t.take (j + 1)).all isDg = true) := by
            show _ = _
            rw [HTK.out, List.all_append, HD.out]
            simp [isDg]; omega
          have HVS : Hid (valL 0 (t.take (j + 1)) = valL 0 (t.take j) * 10 + (c.toNat - 48)) := by show _ = _; rw [HTK.out, valL_snoc]
          obtain ⟨u, hu⟩ : ∃ u, valL 0 (t.take j) = u := ⟨_, rfl⟩
          rw [hu] at HVS hv ⊢
          have hw1 : IntKind.i64.wrap (10 * (u : Int)) = 10 * (u : Int) := by rw [IntKind.wrap_i64]; omega
          have hw2 : IntKind.u8.wrap ((c.toNat : Int) - 48) = (c.toNat : Int) - 48 := by unfold IntKind.wrap; simp [IntKind.signed, IntKind.bits]; omega
          have hw3 : IntKind.i64.wrap ((j : Int) + 1) = (j : Int) + 1 := by have := H8.out; rw [IntKind.wrap_i64]; omega
          have d1 : decide ((c.toNat : Int) < 48) = false := by simp; omega
          have d2 : decide ((c.toNat : Int) > 57) = false := by simp; omega
          have hcv : (c.toNat : Int) - 48 = ((c.toNat - 48 : Nat) : Int) := by omega
          obtain ⟨d, hd⟩ : ∃ d : Nat, c.toNat - 48 = d := ⟨_, rfl⟩
          rw [hd] at hcv HVS
          rw [hcv] at hw2
          have hw4 : IntKind.i64.wrap ((10 * u : Int) + (d : Int)) = (10 * u : Int) + (d : Int) := by rw [IntKind.wrap_i64]; omega
          have hd9 : d ≤ 9 := by omega
          clear hu HVB h1 h2 hcl hd
          go_wp2
          exact ⟨⟨j + 1, by simp, by omega, by rw [HVS.out]; congr 1; omega, HDS.out, HWR.out⟩, by simp [intOf]; omega⟩
        · have hje : t.take j = t := List.take_of_length_le (by omega)
          have HR : Hid (R = valL 0 t) := by
            show _ = _
            rw [HN.out, if_pos (by rw [← hje]; exact HD.out)]
          rw [hje]
          have HR' : R = valL 0 t := HR.out
          subst HR'
          obtain ⟨u, hu⟩ : ∃ u, valL 0 t = u := ⟨_, rfl⟩
          clear HN
          rw [hu]
          have hdu : decide ((u : Int) > 0) = decide (0 < u) := by simp
          clear hje HD HR H8'
          go_wp2
          go_ret2
          exact ⟨by simp [hu], 0, HWR.out⟩
    · have hN : numL l = 0 := by
        unfold numL
        rw [if_neg (fun h => h8 (by rw [← hte, List.length_drop]; omega))]
      rw [hN]
      have hlen : ((t.length : Int) != 8) = true := by simp; omega
      clear hN hp4 hl4 hp ht hte h8
      go_enter Tryz.func27, Tryz.ntmps27
      go_wp2_with (first
        | (go_at_call 72; refine hcp.mono ?_; rintro e w1 ⟨rfl, rfl⟩)
        | fail)
      go_ret2
      exact ⟨rfl, 0, rfl⟩
  · have hN : numL l = 0 := by
      unfold numL
      rw [if_neg (fun h => hp ((pre4 l).2 h.2.1))]
    rw [hN]
    have hpf : Lib.hasPrefix l [119, 97, 108, 45] = false := by simpa using hp
    obtain ⟨t, hte⟩ : ∃ t, Lib.trimPrefix l [119, 97, 108, 45] = t := ⟨_, rfl⟩
    rw [hpf, hte] at hcp
    clear hN hp hpf hte
    go_enter Tryz.func27, Tryz.ntmps27
    go_wp2_with (first
      | (go_at_call 72; refine hcp.mono ?_; rintro e w1 ⟨rfl, rfl⟩)
      | fail)
    go_ret2
    exact ⟨rfl, 0, rfl⟩
end Go.Proofs.YtnahghldlkjleaaGreatDoor
