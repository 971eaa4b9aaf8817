/-
  A number of two digits to the base of sixteen.
-/
import Derived.Test.YtbckogojnjmjcaaGreatDoorBas
import Derived.Test.YtbckogojnjmjcaaGreatDoorLyE
import Derived.Laws.BitsAllLaws
import Derived.Shelf.Strconv.ToError
import Derived.Lib.AtoiErrMem
namespace Go.Proofs.YtbckogojnjmjcaaGreatDoor
open Go.RowKit Go.Shelf

def lowN (c : UInt8) : Nat := c.toNat ||| 32
theorem lowN_lt (c : UInt8) : lowN c < 256 := Nat.or_lt_two_pow (n := 8) c.toNat_lt (by decide)
theorem lowN_hex : ∀ i : Fin 16, 10 ≤ i.val → (hexD i.val).toNat = 87 + i.val ∧ lowN (hexD i.val) = 87 + i.val := by decide
theorem hexD_low : ∀ i : Fin 16, i.val < 10 → (hexD i.val).toNat = 48 + i.val := by decide
theorem fErr : Tryz.laysErr_ren.f 245 = 101 := by kernel_rfl
theorem lower_any (c : UInt8) (w : World) : Calls Tryz.prog 135 #[.int .u8 (c.toNat : Int)] w fun e w' => e = .returned (.int .u8 (lowN c : Int)) ∧ w' = w := by
  have h : bits .or .u8 (c.toNat : Int) 32 = (lowN c : Int) := u8_or_nat c.toNat 32 c.toNat_lt (by decide)
  go_enter Tryz.func135, Tryz.ntmps135
  go_wp2
  go_ret
  exact ⟨rfl, rfl⟩
/-- A digit's number, if it is one. -/
def hexN (c : UInt8) : Option Nat := if 48 ≤ c.toNat ∧ c.toNat ≤ 57 then some (c.toNat - 48) else if 97 ≤ lowN c ∧ lowN c ≤ 102 then some (lowN c - 87) else none
theorem hexN_D (i : Nat) (hi : i < 16) : hexN (hexD i) = some i := by
  unfold hexN
  by_cases h : i < 10
  · have : (hexD i).toNat = 48 + i := hexD_low ⟨i, hi⟩ h
    rw [if_pos (by omega)]; congr 1; omega
  · have : (hexD i).toNat = 87 + i ∧ lowN (hexD i) = 87 + i := lowN_hex ⟨i, hi⟩ (by show 10 ≤ i; omega)
    rw [if_neg (by omega), if_pos (by omega)]; congr 1; omega
/-- The number of the first so many. -/
def hexV : Nat → Bs → Option Nat
  | acc, [] => some acc
  | acc, c :: r => match hexN c with
    | some d => hexV (acc * 16 + d) r
    | none => none
theorem hexV_snoc (acc : Nat) (l : Bs) (c : UInt8) : hexV acc (l ++ [c]) = (hexV acc l).bind fun n => (hexN c).map fun d => n * 16 + d := by
  induction l generalizing acc with
  | nil => simp only [List.nil_append, hexV, Option.bind_some]; cases hexN c <;> rfl
  | cons a l ih => simp only [List.cons_append, hexV]; cases hexN a with
    | none => rfl
    | some d => exact ih _
theorem hexV_none {l r : Bs} {acc : Nat} (h : hexV acc l = none) : hexV acc (l ++ r) = none := by
  induction l generalizing acc with
  | nil => cases h
  | cons a l ih => simp only [List.cons_append, hexV] at h ⊢; cases hn : hexN a with
    | none => rfl
    | some d => rw [hn] at h; exact ih h
theorem hexN_lt {c : UInt8} {d : Nat} (h : hexN c = some d) : d < 16 := by
  unfold hexN at h
  split at h
  · injection h; omega
  · split at h
    · injection h; omega
    · cases h
set_option maxRecDepth 100000 in
set_option maxHeartbeats 2000000 in
theorem iparse16 (x y : UInt8) (w : World) : Calls Tryz.prog 122 #[str [x, y], .int .i64 16, .int .i64 8] w fun e w' =>
    ((∃ n : Nat, hexV 0 [x, y] = some n ∧ e = .returned (.tuple #[.int .u64 (n : Int), .nilIface])) ∨ (hexV 0 [x, y] = none ∧ e = .returned (.tuple #[.int .u64 0, .iface 180 (.int .i64 2)]))) ∧ Below w.heap.size w w' := by
  have hcv := Lib.run_convert_string_bytes (P := Tryz.prog) w 9 92 5 ⟨#[x, y]⟩ (u := .string) Tryz.underlying9 Tryz.underlying92 Tryz.underlying5
  have hB : ∀ j, j < 2 → (Lib.bytesWorld w 5 ⟨#[x, y]⟩).cell? ⟨w.heap.size, j, none⟩ = some (.int .u8 (([x, y] : Bs).getD j 0).toNat) := fun j hj => Lib.bytesWorld_cell w 5 ⟨#[x, y]⟩ j hj
  have HBel : Hid (Below w.heap.size w (Lib.bytesWorld w 5 ⟨#[x, y]⟩)) := Lib.bytesWorld_below _ _ _
  obtain ⟨W1, hW1⟩ : ∃ W1, W1 = Lib.bytesWorld w 5 ⟨#[x, y]⟩ := ⟨_, rfl⟩
  rw [← hW1] at hcv hB HBel
  clear hW1
  unfold str
  go_enter Tryz.func122, Tryz.ntmps122
  go_wp2
  go_loop [12, 13, 101] (fun vu vn vi => ∃ (k acc : Nat) (a : Int), vu = .bool false ∧ vn = .int .u64 a ∧ vi = .int .i64 k ∧ k ≤ 2 ∧ Hid (a = (acc : Int) ∧ hexV 0 (([x, y] : Bs).take k) = some acc ∧ acc < 16 ^ k)) (fun _ _ vi => 2 - (intOf vi).toNat)
  case atStart => exact ⟨0, 0, 0, rfl, rfl, rfl, by omega, rfl, rfl, by decide⟩
  case round =>
    obtain ⟨k, acc, a, rfl, rfl, rfl, hk, hh⟩ := hrel
    obtain ⟨ha, hv, hlt⟩ := hh.out
    clear hh
    have HV : Hid (hexV 0 (([x, y] : Bs).take k) = some acc) := hv
    have a0 : 0 ≤ a := by omega
    by_cases hkn : k < 2
    · have a1 : a < 16 := by
        have : acc < 16 := by rcases (by omega : k = 0 ∨ k = 1) with rfl | rfl <;> omega
        omega
      have hc := hB k hkn
      have HT : Hid (([x, y] : Bs).take (k + 1) = ([x, y] : Bs).take k ++ [([x, y] : Bs).getD k 0] ∧ ∃ r, ([x, y] : Bs) = ([x, y] : Bs).take (k + 1) ++ r) := by
        refine ⟨?_, ⟨_, (List.take_append_drop _ _).symm⟩⟩
        rcases (by omega : k = 0 ∨ k = 1) with rfl | rfl <;> rfl
      have HA : Hid (a = (acc : Int)) := ha
      have HL : Hid (acc < 16 ^ k) := hlt
      generalize ([x, y] : Bs).getD k 0 = c at hc HT
      clear hB ha hv hlt
      have hc256 : c.toNat < 256 := c.toNat_lt
      have HN : Hid (hexN c = none → hexV 0 [x, y] = none) := fun h => by
        obtain ⟨e1, r, e2⟩ := HT.out
        rw [e2]
        refine hexV_none ?_
        rw [e1, hexV_snoc, HV.out, h]; rfl
      have HS : Hid (∀ d, hexN c = some d → hexV 0 (([x, y] : Bs).take (k + 1)) = some (acc * 16 + d) ∧ acc * 16 + d < 16 ^ (k + 1)) := fun d h => by
        refine ⟨?_, ?_⟩
        · rw [HT.out.1, hexV_snoc, HV.out, h]; rfl
        · have := hexN_lt h; have := HL.out; rw [Nat.pow_succ]; omega
      by_cases hdig : 48 ≤ c.toNat ∧ c.toNat ≤ 57
      · have HD := HS.out (c.toNat - 48) (by unfold hexN; rw [if_pos hdig])
        obtain ⟨hd0, hd1⟩ := hdig
        have HE : Hid (a * 16 + ((c.toNat : Int) - 48) = ((acc * 16 + (c.toNat - 48) : Nat) : Int)) := by show _ = _; rw [HA.out]; omega
        have HDh : Hid (hexV 0 (([x, y] : Bs).take (k + 1)) = some (acc * 16 + (c.toNat - 48)) ∧ acc * 16 + (c.toNat - 48) < 16 ^ (k + 1)) := HD
        clear HD HN HS HT HA HL
        go_wp2
        refine ⟨⟨k + 1, acc * 16 + (c.toNat - 48), a * 16 + ((c.toNat : Int) - 48), rfl, (by first | rfl | (congr 1; omega)), (by first | rfl | (congr 1; omega)), by omega, HE.out, HDh.out.1, HDh.out.2⟩, by simp [intOf]; omega⟩
      · have HLO := lower_any c
        by_cases hlo : 97 ≤ lowN c ∧ lowN c ≤ 102
        · have HD := HS.out (lowN c - 87) (by unfold hexN; rw [if_neg hdig, if_pos hlo])
          have HE : Hid (a * 16 + ((lowN c : Int) - 87) = ((acc * 16 + (lowN c - 87) : Nat) : Int)) := by show _ = _; rw [HA.out]; omega
          have HDh : Hid (hexV 0 (([x, y] : Bs).take (k + 1)) = some (acc * 16 + (lowN c - 87)) ∧ acc * 16 + (lowN c - 87) < 16 ^ (k + 1)) := HD
          have h95 : ((c.toNat : Int) == 95) = false := by
            rw [beq_eq_false_iff_ne]; intro h
            have : c = 95 := u8_eq (by show _ = 95; omega)
            subst this
            exact absurd hlo (by decide)
          generalize lowN c = l at HLO hlo HE HDh
          clear HD HN HS HT HA HL
          obtain ⟨hl0, hl1⟩ := hlo
          rcases (by omega : c.toNat < 48 ∨ 57 < c.toNat) with hd | hd
          all_goals (
            clear hdig
            go_wp2_with (go_at_call 135; refine (HLO _).mono ?_; rintro e wl ⟨rfl, hwl⟩; subst wl)
            refine ⟨⟨k + 1, acc * 16 + (l - 87), a * 16 + ((l : Int) - 87), rfl, (by first | rfl | (congr 1; omega)), (by first | rfl | (congr 1; omega)), by omega, HE.out, HDh.out.1, HDh.out.2⟩, by simp [intOf]; omega⟩)
        · have HZ : Hid (hexV 0 [x, y] = none) := HN.out (by unfold hexN; rw [if_neg hdig, if_neg hlo])
          have hl256 := lowN_lt c
          by_cases h95' : c = 95
          · subst h95'
            have HL5 : ∀ w, Calls Tryz.prog 135 #[.int .u8 95] w fun e w' => e = .returned (.int .u8 127) ∧ w' = w := lower_any 95
            have hc5 : W1.cell? ⟨w.heap.size, k, none⟩ = some (.int .u8 95) := hc
            clear HLO HN HS HT HA HL hdig hlo hl256 hc hc256
            go_wp2_with (go_at_call 135; refine (HL5 _).mono ?_; rintro e wl ⟨rfl, hwl⟩; subst wl)
            go_ret2
            exact ⟨.inr ⟨HZ.out, rfl⟩, HBel.out⟩
          have h95 : ((c.toNat : Int) == 95) = false := by
            rw [beq_eq_false_iff_ne]; intro h
            exact h95' (u8_eq (by show _ = 95; omega))
          clear h95'
          generalize lowN c = l at HLO hlo hl256
          clear HN HS HT HA HL
          rcases (by omega : c.toNat < 48 ∨ 57 < c.toNat) with hd | hd
          all_goals (
            rcases (by omega : l < 97 ∨ (97 ≤ l ∧ 122 < l) ∨ (103 ≤ l ∧ l ≤ 122)) with hl | hl | hl
            all_goals (
              clear hdig hlo
              go_wp2_with (go_at_call 135; refine (HLO _).mono ?_; rintro e wl ⟨rfl, hwl⟩; subst wl)
              go_ret2
              exact ⟨.inr ⟨HZ.out, rfl⟩, HBel.out⟩))
    · have hke : k = 2 := by omega
      subst hke
      have HZ : Hid (hexV 0 [x, y] = some acc) := HV.out
      have HA : Hid (a = (acc : Int)) := ha
      clear HV hv hlt ha hB
      go_wp2
      go_ret2
      exact ⟨.inl ⟨acc, HZ.out, by rw [HA.out]; rfl⟩, HBel.out⟩
set_option maxRecDepth 100000 in
theorem parse16 (x y : UInt8) (w : World) (hv : Vars w) : Calls Tryz.prog 108 #[str [x, y], .int .i64 16, .int .i64 8] w fun e w' =>
    (∃ (n : Nat) (v : Value), (hexV 0 [x, y] = some n ∨ (hexV 0 [x, y] = none ∧ n = 0)) ∧ e = .returned (.tuple #[.int .u64 (n : Int), v])) ∧ Below w.heap.size w w' := by
  have HI := iparse16 x y w
  unfold str at *
  go_enter Tryz.func108, Tryz.ntmps108
  go_wp2_with fail
  refine HI.mono ?_
  rintro e w1 ⟨⟨n, hn, rfl⟩ | ⟨hn, rfl⟩, hB⟩
  · go_wp2
    go_ret2
    exact ⟨⟨n, _, .inl hn, rfl⟩, hB⟩
  · have hv1 := (hv.below hB).syn
    obtain ⟨tp, q, hvar⟩ := hv1
    have HE := Any.strconv_toError_syntax Tryz.laysErr ⟨#[80, 97, 114, 115, 101, 85, 105, 110, 116]⟩ ⟨#[x, y]⟩ 16 8 (.iface tp q) w1 (show (2 : Nat) ≤ 281474976710656 by decide) (by have h0 := World.var?_cell Tryz.laysErr.m15 hvar 0; simpa using h0) (Or.inr ⟨tp, q, rfl⟩)
    rw [fErr] at HE
    go_wp2_with fail
    refine HE.mono ?_
    rintro e w2 ⟨N, rfl, -, -, hB2⟩
    go_wp2
    go_ret2
    exact ⟨⟨0, _, .inr ⟨hn, rfl⟩, rfl⟩, hB.trans (hB2.mono hB.size)⟩
end Go.Proofs.YtbckogojnjmjcaaGreatDoor
