/-
  The index of a name: the program's and the document's.
-/
import Derived.Test.YtadajbdmlmickaaGreatDoorLIdx
import Derived.Test.YtadajbdmlmickaaGreatDoorNam
import Derived.Shelf.Small.Wraps
import Derived.Lib.AtoiErrMem
namespace Go.Proofs.YtadajbdmlmickaaGreatDoor
open Go.RowKit Go.Shelf
set_option linter.unusedVariables false

theorem fCutP : Tryz.laysCutP_ren.f 103 = 54 := by kernel_rfl
/-- The index that a name tells; 0: none. -/
def idxL (l : List UInt8) : Nat := if l.length = 24 ∧ l.take 5 = [115, 110, 97, 112, 45] ∧ (l.drop 5).all isDg = true ∧ valL 0 (l.drop 5) ≤ 4611686018427387904 then valL 0 (l.drop 5) else 0
theorem cutp_any (l : List UInt8) (w : World) : Calls Tryz.prog 54 #[.string ⟨l.toArray⟩, .string ⟨#[115, 110, 97, 112, 45]⟩] w fun e w' => e = .returned (.tuple #[.string ⟨(Lib.trimPrefix l [115, 110, 97, 112, 45]).toArray⟩, .bool (Lib.hasPrefix l [115, 110, 97, 112, 45])]) ∧ w' = w := by
  have h := Any.strings_CutPrefix Tryz.laysCutP ⟨l.toArray⟩ ⟨#[115, 110, 97, 112, 45]⟩ w
  rw [fCutP] at h
  refine h.mono fun e w' ⟨he, hw⟩ => ⟨?_, hw⟩
  rw [he]
theorem pu_any (l : List UInt8) (hl : l.length = 19) (w : World) (hv : Vars w) : Calls Tryz.prog 55 #[.string ⟨l.toArray⟩, .int .i64 10, .int .i64 64] w fun e w' => (if l.all isDg = true then e = .returned (.tuple #[.int .u64 (valL 0 l : Int), .nilIface]) else ∃ u tp q, e = .returned (.tuple #[.int .u64 u, .iface tp (.pointer (some ⟨q, 0, none⟩))])) ∧ Below w.heap.size w w' := by
  by_cases hd : l.all isDg = true
  · have h := Any.strconv_ParseUint_10_at64_ok Tryz.laysPu14 ⟨l.toArray⟩ (by show l.length ≤ _; omega) (valL 0 l) (by show Lib.parseUintB 64 l = _; rw [parse19 hl, if_pos hd]) w
    rw [fPu] at h
    refine h.mono fun e w' ⟨he, hw⟩ => ⟨?_, ?_⟩
    · rw [if_pos hd]; exact he
    · rcases hw with rfl | rfl
      · exact Below.refl _ _
      · exact Lib.bytesWorld_below _ _ _
  · obtain ⟨tp, q, hs⟩ := hv.syn
    have h := Any.strconv_ParseUint_10_at64_syntax_var Tryz.laysPu14 ⟨l.toArray⟩ (by show l.length ≤ _; omega) (by show Lib.parseUintB 64 l = _; rw [parse19 hl, if_neg hd]) tp q w hs
    rw [fPu] at h
    refine h.mono fun e w' ⟨k, he, h1, h2, h3⟩ => ⟨?_, h3⟩
    rw [if_neg hd]
    exact ⟨_, _, _, he⟩
theorem pre5 (l : List UInt8) : Lib.hasPrefix l [115, 110, 97, 112, 45] = true ↔ l.take 5 = [115, 110, 97, 112, 45] := by
  rw [Lib.hasPrefix, List.isPrefixOf_iff_prefix, List.prefix_iff_eq_take]
  exact ⟨fun h => h.symm, fun h => h.symm⟩
set_option maxRecDepth 100000 in
set_option maxHeartbeats 400000 in
theorem index_any (l : List UInt8) (hm : l.length ≤ 4000) (w : World) (hv : Vars w) : Calls Tryz.prog 21 #[.string ⟨l.toArray⟩] w fun e w' => e = .returned (.tuple #[.int .i64 (idxL l : Int), .bool (decide (0 < idxL l))]) ∧ Below w.heap.size w w' := by
  have hcp := cutp_any l w
  by_cases hp : Lib.hasPrefix l [115, 110, 97, 112, 45] = true
  · have ht : Lib.trimPrefix l [115, 110, 97, 112, 45] = l.drop 5 := by rw [Lib.trimPrefix, if_pos hp]; rfl
    rw [hp, ht] at hcp
    have hp5 := (pre5 l).1 hp
    have hl5 : 5 ≤ l.length := by
      have := congrArg List.length hp5
      simp at this
      omega
    by_cases h19 : (l.drop 5).length = 19
    · have hpu := pu_any (l.drop 5) h19 w hv
      have h24 : l.length = 24 := by rw [List.length_drop] at h19; omega
      obtain ⟨t, hte⟩ : ∃ t, l.drop 5 = t := ⟨_, rfl⟩
      rw [hte] at hcp h19 hpu
      by_cases hd : t.all isDg = true
      · obtain ⟨u, hu⟩ : ∃ u, valL 0 t = u := ⟨_, rfl⟩
        have hI : idxL l = if u ≤ 4611686018427387904 then u else 0 := by
          rw [idxL, hte, hu]
          by_cases hx : u ≤ 4611686018427387904
          · rw [if_pos ⟨h24, hp5, hd, hx⟩, if_pos hx]
          · rw [if_neg (fun h => hx h.2.2.2), if_neg hx]
        have hub : u < 10000000000000000000 := by
          have := valL_lt t 0 (by simpa using hd)
          rw [hu, h19] at this
          omega
        simp only [if_pos hd, hu] at hpu
        have hlen : ((t.length : Int) != 19) = false := by simp; omega
        have HT : Hid (t.length = 19) := h19
        by_cases hx : 1 ≤ u ∧ u ≤ 4611686018427387904
        · rw [if_pos hx.2] at hI
          rw [hI]
          have d1 : decide ((u : Int) < 1) = false := by simp; omega
          have d2 : decide ((u : Int) > 4611686018427387904) = false := by simp; omega
          have d3 : decide (0 < u) = true := by simp; omega
          have HW : Hid (wrap64 (u : Int) = (u : Int)) := by show wrap64 (u : Int) = (u : Int); unfold wrap64; omega
          rw [d3]
          clear hub hx hI hp5 hl5 hp ht hte hm h24 hd h19 hu
          go_enter Tryz.func21, Tryz.ntmps21
          go_wp2_with (first
            | (go_at_call 54; refine hcp.mono ?_; rintro e w1 ⟨rfl, rfl⟩)
            | (go_at_call 55; refine hpu.mono ?_; rintro e w2 ⟨rfl, hB⟩)
            | fail)
          go_ret2
          exact ⟨by rw [HW.out]; rfl, hB⟩
        · have hI0 : idxL l = 0 := by
            rw [hI]
            by_cases hy : u ≤ 4611686018427387904
            · rw [if_pos hy]; omega
            · rw [if_neg hy]
          rw [hI0]
          by_cases hz : u < 1
          · have d1 : decide ((u : Int) < 1) = true := by simp; omega
            clear hub hx hI hp5 hl5 hp ht hte hm h24 hd h19 hu hI0 hz
            go_enter Tryz.func21, Tryz.ntmps21
            go_wp2_with (first
              | (go_at_call 54; refine hcp.mono ?_; rintro e w1 ⟨rfl, rfl⟩)
              | (go_at_call 55; refine hpu.mono ?_; rintro e w2 ⟨rfl, hB⟩)
              | fail)
            go_ret2
            exact ⟨rfl, hB⟩
          · have d1 : decide ((u : Int) < 1) = false := by simp; omega
            have d2 : decide ((u : Int) > 4611686018427387904) = true := by simp; omega
            clear hub hx hI hp5 hl5 hp ht hte hm h24 hd h19 hu hI0 hz
            go_enter Tryz.func21, Tryz.ntmps21
            go_wp2_with (first
              | (go_at_call 54; refine hcp.mono ?_; rintro e w1 ⟨rfl, rfl⟩)
              | (go_at_call 55; refine hpu.mono ?_; rintro e w2 ⟨rfl, hB⟩)
              | fail)
            go_ret2
            exact ⟨rfl, hB⟩
      · have hI0 : idxL l = 0 := by rw [idxL, hte, if_neg (fun h => hd h.2.2.1)]
        rw [hI0]
        simp only [if_neg hd] at hpu
        have hlen : ((t.length : Int) != 19) = false := by simp; omega
        have HT : Hid (t.length = 19) := h19
        clear hI0 hp5 hl5 hp ht hte hm h24 hd h19
        go_enter Tryz.func21, Tryz.ntmps21
        go_wp2_with (first
          | (go_at_call 54; refine hcp.mono ?_; rintro e w1 ⟨rfl, rfl⟩)
          | (go_at_call 55; refine hpu.mono ?_; rintro e w2 ⟨⟨u, tp, q, rfl⟩, hB⟩)
          | fail)
        go_ret2
        exact ⟨rfl, hB⟩
    · have hI0 : idxL l = 0 := by rw [idxL, if_neg (fun h => h19 (by rw [List.length_drop]; omega))]
      rw [hI0]
      obtain ⟨t, hte⟩ : ∃ t, l.drop 5 = t := ⟨_, rfl⟩
      have hlt : t.length ≤ 4000 := by rw [← hte, List.length_drop]; omega
      rw [hte] at hcp h19
      have hlen : ((t.length : Int) != 19) = true := by simp; omega
      have HT : Hid (t.length ≤ 4000) := hlt
      clear hI0 hp5 hl5 hp ht hte hm h19 hlt
      go_enter Tryz.func21, Tryz.ntmps21
      go_wp2_with (first
        | (go_at_call 54; refine hcp.mono ?_; rintro e w1 ⟨rfl, rfl⟩)
          | fail)
      go_ret2
      exact ⟨rfl, Below.refl _ _⟩
  · have hI0 : idxL l = 0 := by rw [idxL, if_neg (fun h => hp ((pre5 l).2 h.2.1))]
    rw [hI0]
    have hpf : Lib.hasPrefix l [115, 110, 97, 112, 45] = false := by simpa using hp
    obtain ⟨t, hte⟩ : ∃ t, Lib.trimPrefix l [115, 110, 97, 112, 45] = t := ⟨_, rfl⟩
    rw [hpf, hte] at hcp
    clear hI0 hp hpf hte hm
    go_enter Tryz.func21, Tryz.ntmps21
    go_wp2_with (first
      | (go_at_call 54; refine hcp.mono ?_; rintro e w1 ⟨rfl, rfl⟩)
      | fail)
    go_ret2
    exact ⟨rfl, Below.refl _ _⟩
end Go.Proofs.YtadajbdmlmickaaGreatDoor
