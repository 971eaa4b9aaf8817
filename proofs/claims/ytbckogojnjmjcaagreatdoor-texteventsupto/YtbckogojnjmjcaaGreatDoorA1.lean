/-
  The front of a bare word; a byte as it is spelt.
-/
import Derived.Test.YtbckogojnjmjcaaGreatDoorBas
namespace Go.Proofs.YtbckogojnjmjcaaGreatDoor
open Go.RowKit Go.Shelf

theorem byte_index (s : Bs) (k : Nat) (hk : k < s.length) : (⟨s.toArray⟩ : ByteArray).size = s.length ∧ s.toArray[k]'(by simpa using hk) = s[k] := ⟨by show s.toArray.size = _; simp, by simp⟩
theorem tw_step {s : Bs} {k : Nat} (hk : k < s.length) (ha : (s.take k).all bareB = true) (hb : bareB s[k] = true) : (s.take (k + 1)).all bareB = true := by
  rw [List.take_succ_eq_append_getElem hk, List.all_append]; simp [ha, hb]
theorem tw_stop {s : Bs} {k : Nat} (hk : k < s.length) (ha : (s.take k).all bareB = true) (hb : bareB s[k] = false) : (s.takeWhile bareB).length = k := by
  rw [← List.take_append_drop k s, List.takeWhile_append_of_pos (fun a ha' => List.all_eq_true.1 ha a ha'), List.drop_eq_getElem_cons hk, List.takeWhile_cons, hb]
  simp
  omega
theorem tw_all {s : Bs} (ha : s.all bareB = true) : (s.takeWhile bareB).length = s.length := by
  induction s with
  | nil => rfl
  | cons c t ih => simp only [List.all_cons, Bool.and_eq_true] at ha; simp [ha.1, ih ha.2]

set_option maxRecDepth 100000 in
theorem bareFront_any (s : Bs) (hs : s.length ≤ 1000000000) (w : World) : Calls Tryz.prog 37 #[str s] w fun e w' => e = .returned (.int .i64 ((s.takeWhile bareB).length : Int)) ∧ w' = w := by
  have hz : (⟨s.toArray⟩ : ByteArray).size = s.length := by show s.toArray.size = _; simp
  unfold str
  go_enter Tryz.func37, Tryz.ntmps37
  go_wp2
  go_loop [7] (fun i => ∃ k : Nat, i = .int .i64 k ∧ k ≤ s.length ∧ (s.take k).all bareB = true) (fun i => s.length - (intOf i).toNat)
  case atStart => exact ⟨0, rfl, Nat.zero_le _, by simp⟩
  case round =>
    obtain ⟨k, rfl, hk, ha⟩ := hrel
    have HA : Hid ((s.take k).all bareB = true) := ha
    clear ha
    by_cases hlt : k < s.length
    · have hx : (⟨s.toArray⟩ : ByteArray)[k]'(by rw [hz]; exact hlt) = s[k] := rfl
      have HS : Hid (bareB s[k] = true → (s.take (k + 1)).all bareB = true) := fun hb => tw_step hlt HA.out hb
      have HT : Hid (bareB s[k] = false → (s.takeWhile bareB).length = k) := fun hb => tw_stop hlt HA.out hb
      generalize s[k] = c at hx HS HT
      cases hb : bareB c with
      | true =>
        have hb' := bareB_iff.1 hb
        have h1 : decide ((c.toNat : Int) ≤ 32) = false := by simp; omega
        have h2 : decide (126 < (c.toNat : Int)) = false := by simp; omega
        have h3 : ((c.toNat : Int) == 34) = false := by rw [beq_eq_false_iff_ne]; omega
        have HN := HS.out hb
        clear hb hb' HS HT
        go_wp2
        go_round
        case rel => exact ⟨k + 1, by go_num, by omega, HN⟩
        case measure => simp [intOf]; omega
      | false =>
        have HN : Hid ((s.takeWhile bareB).length = k) := HT.out hb
        have hb' : ¬ (32 < c.toNat ∧ c.toNat ≤ 126 ∧ c.toNat ≠ 34) := fun h => by rw [bareB_iff.2 h] at hb; cases hb
        clear hb HS HT
        rcases (by omega : c.toNat ≤ 32 ∨ 126 < c.toNat ∨ c.toNat = 34) with h | h | h
        · have h1 : decide ((c.toNat : Int) ≤ 32) = true := by simp; omega
          clear h hb'
          go_wp2
          go_ret
          exact ⟨by rw [HN.out]; rfl, rfl⟩
        · have h1 : decide ((c.toNat : Int) ≤ 32) = false := by simp; omega
          have h2 : decide (126 < (c.toNat : Int)) = true := by simp; omega
          clear h hb'
          go_wp2
          go_ret
          exact ⟨by rw [HN.out]; rfl, rfl⟩
        · have h1 : decide ((c.toNat : Int) ≤ 32) = false := by simp; omega
          have h2 : decide (126 < (c.toNat : Int)) = false := by simp; omega
          have h3 : ((c.toNat : Int) == 34) = true := by simp; omega
          clear h hb'
          go_wp2
          go_ret
          exact ⟨by rw [HN.out]; rfl, rfl⟩
    · have hke : k = s.length := by omega
      have HN : Hid ((s.takeWhile bareB).length = s.length) := tw_all (by have := HA.out; rwa [hke, List.take_length] at this)
      clear hke
      go_wp2
      go_ret
      exact ⟨by rw [HN.out]; rfl, rfl⟩
theorem conv_lit (w : World) (l : Bs) (cap : Nat) : (convert 92 9 (.slice (some ⟨w.heap.size, 0, none⟩) l.length cap)).run Tryz.prog (w.alloc (.cells (l.map fun b => Value.int .u8 (b.toNat : Int)).toArray 5)) = .ok (.string ⟨l.toArray⟩) (w.alloc (.cells (l.map fun b => Value.int .u8 (b.toNat : Int)).toArray 5)) :=
  run_convert_bytes_back _ _ _ 5 ⟨w.heap.size, 0, none⟩ cap l Tryz.underlying92 Tryz.underlying5 Tryz.underlying9 (fun j hj => by
    have hb : (w.alloc (.cells (l.map fun b => Value.int .u8 (b.toNat : Int)).toArray 5)).heap[w.heap.size]? = some (.cells (l.map fun b => Value.int .u8 (b.toNat : Int)).toArray 5) := heap_alloc_new _ _
    rw [Addr.add_lit]
    simp only [World.cell?, hb, Nat.zero_add]
    simp [hj])
theorem hex_at (n : Nat) (hn : n < 16) : (⟨#[48, 49, 50, 51, 52, 53, 54, 55, 56, 57, 97, 98, 99, 100, 101, 102]⟩ : ByteArray)[n]'hn = hexD n := by
  have : ∀ i : Fin 16, (⟨#[48, 49, 50, 51, 52, 53, 54, 55, 56, 57, 97, 98, 99, 100, 101, 102]⟩ : ByteArray)[i.val]'i.isLt = hexD i.val := by decide
  exact this ⟨n, hn⟩
set_option maxRecDepth 100000 in
theorem spelt_any (c : UInt8) (w : World) : Calls Tryz.prog 40 #[.int .u8 (c.toNat : Int)] w fun e w' => e = .returned (str (spell c)) ∧ Below w.heap.size w w' := by
  have hc := c.toNat_lt
  unfold str
  rcases spell_cases c with ⟨h1, e1⟩ | ⟨a1, b1, n1, m1, e1⟩ | ⟨h1, e1⟩
  · rw [e1]
    have hk : (convert 92 9 (.slice (some ⟨w.heap.size, 0, none⟩) 2 2)).run Tryz.prog (w.alloc (.cells #[.int .u8 92, .int .u8 (c.toNat : Int)] 5)) = .ok (.string ⟨#[92, c]⟩) (w.alloc (.cells #[.int .u8 92, .int .u8 (c.toNat : Int)] 5)) := conv_lit w [92, c] 2
    have hq : (((c.toNat : Int) == 34) = true ∨ ((c.toNat : Int) == 34) = false ∧ ((c.toNat : Int) == 92) = true) := by rcases h1 with rfl | rfl <;> simp
    clear h1 e1
    rcases hq with hq | ⟨hq, hq2⟩
    all_goals (
      go_enter Tryz.func40, Tryz.ntmps40
      go_wp2
      go_ret
      exact ⟨rfl, (Below.refl _ _).alloc (Nat.le_refl _) _⟩)
  · rw [e1]
    have hk : (convert 92 9 (.slice (some ⟨w.heap.size, 0, none⟩) 1 1)).run Tryz.prog (w.alloc (.cells #[.int .u8 (c.toNat : Int)] 5)) = .ok (.string ⟨#[c]⟩) (w.alloc (.cells #[.int .u8 (c.toNat : Int)] 5)) := conv_lit w [c] 1
    have hq1 : ((c.toNat : Int) == 34) = false := by rw [beq_eq_false_iff_ne]; intro h; exact n1 (u8_eq (by show _ = 34; omega))
    have hq2 : ((c.toNat : Int) == 92) = false := by rw [beq_eq_false_iff_ne]; intro h; exact m1 (u8_eq (by show _ = 92; omega))
    have hq3 : decide ((32 : Int) ≤ (c.toNat : Int)) = true := by simp; omega
    have hq4 : decide ((c.toNat : Int) ≤ 126) = true := by simp; omega
    clear e1 a1 b1 n1 m1
    go_enter Tryz.func40, Tryz.ntmps40
    go_wp2
    go_ret
    exact ⟨rfl, (Below.refl _ _).alloc (Nat.le_refl _) _⟩
  · rw [e1]
    have hd : (c.toNat : Int) / 16 = ((c.toNat / 16 : Nat) : Int) := by omega
    have hm : (c.toNat : Int) % 16 = ((c.toNat % 16 : Nat) : Int) := by omega
    have hp16 : c.toNat / 16 < 16 := by omega
    have hm16 : c.toNat % 16 < 16 := by omega
    have hq1 : ((c.toNat : Int) == 34) = false := by rw [beq_eq_false_iff_ne]; omega
    have hq2 : ((c.toNat : Int) == 92) = false := by rw [beq_eq_false_iff_ne]; omega
    clear e1
    generalize c.toNat / 16 = p at hd hp16
    generalize c.toNat % 16 = q at hm hm16
    have hx1 := hex_at p hp16
    have hx2 := hex_at q hm16
    have hk : ∀ w : World, (convert 92 9 (.slice (some ⟨w.heap.size, 0, none⟩) 4 4)).run Tryz.prog (w.alloc (.cells #[.int .u8 92, .int .u8 120, .int .u8 ((hexD p).toNat : Int), .int .u8 ((hexD q).toNat : Int)] 5)) = .ok (.string ⟨#[92, 120, hexD p, hexD q]⟩) (w.alloc (.cells #[.int .u8 92, .int .u8 120, .int .u8 ((hexD p).toNat : Int), .int .u8 ((hexD q).toNat : Int)] 5)) := fun w => conv_lit w [92, 120, hexD p, hexD q] 4
    have hk2 := hk w.drew
    have e0 : w.drew.heap.size = w.heap.size := rfl
    have e1 : ∀ o, w.drew.alloc o = (w.alloc o).drew := fun o => rfl
    rw [e0, e1] at hk2
    generalize hexD p = hp at *
    generalize hexD q = hh at *
    clear e0 e1 hk
    have hB : Hid (Below w.heap.size w (w.alloc (.cells #[.int .u8 92, .int .u8 120, .int .u8 (hp.toNat : Int), .int .u8 (hh.toNat : Int)] 5)).drew) := ((Below.refl _ _).alloc (Nat.le_refl _) _).drew
    rcases h1 with h1 | h1
    · have hq3 : decide ((32 : Int) ≤ (c.toNat : Int)) = false := by simp; omega
      clear h1
      go_enter Tryz.func40, Tryz.ntmps40
      go_wp2
      go_region
      all_goals (
        go_wp2
        go_ret
        exact ⟨rfl, hB.out⟩)
    · have hq3 : decide ((32 : Int) ≤ (c.toNat : Int)) = true := by simp; omega
      have hq4 : decide ((c.toNat : Int) ≤ 126) = false := by simp; omega
      clear h1
      go_enter Tryz.func40, Tryz.ntmps40
      go_wp2
      go_region
      all_goals (
        go_wp2
        go_ret
        exact ⟨rfl, hB.out⟩)
end Go.Proofs.YtbckogojnjmjcaaGreatDoor
