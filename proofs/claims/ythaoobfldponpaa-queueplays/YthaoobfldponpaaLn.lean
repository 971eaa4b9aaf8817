/-
  What NewLanes does.
-/
import Derived.Test.YthaoobfldponpaaLa
import Derived.Laws.MakeOwn
namespace Go.Proofs.Ythaoobfldponpaa
open Go.RowKit
set_option linter.unusedVariables false

theorem infoP : (Try.prog.info? 24).map (fun i => (i.zero, i.size, i.bytes)) = some (some (.pointer none), 1, 8) := by kernel_rfl
theorem run_mk (n : Nat) (hn : n ≤ 64) (w : World) : ∃ cs : Array Value, cs.size = n ∧ (Instr.makeSlice 61 (.int .i64 (n : Int)) (.int .i64 (n : Int))).run Try.prog w = .ok (.slice (some ⟨w.heap.size, 0, none⟩) n n) (w.alloc (.cells cs 24)) := by
  obtain ⟨i0, hi, hz0, hz1, hz2⟩ := info_parts infoP
  have h := run_make (P := Try.prog) w 61 24 i0 (.pointer none) Try.underlying61 hi hz0 .i64 .i64 n n (by omega) (by omega) (by rw [hz2]; omega) (by omega)
  rw [hz1] at h
  simp only [Int.toNat_natCast, Nat.mul_one] at h
  exact ⟨_, size_madeCells _ _, h⟩

/-- i queues are made, behind the row of pointers in block c. -/
structure Mk (w : World) (n room i : Nat) (wr : World) : Prop where
  bel : Below w.heap.size w wr
  sz : wr.heap.size = w.heap.size + 1 + i
  hc : ∃ cs : Array Value, wr.heap[w.heap.size]? = some (.cells cs 24 (0, 0)) ∧ cs.size = n ∧ ∀ j, j < i → cs[j]? = some (.pointer (some ⟨w.heap.size + 1 + j, 0, none⟩))
  qs : ∀ j, j < i → wr.heap[w.heap.size + 1 + j]? = some (.cells #[.int .i64 (room : Int), .slice none 0 0] 58 (0, 0))

theorem Mk.step {w wr : World} {n room i : Nat} (h : Mk w n room i wr) (hi : i < n) : Mk w n room (i + 1) ((wr.alloc (.cells #[.int .i64 (room : Int), .slice none 0 0] 58)).setCell ⟨w.heap.size, i, none⟩ (.pointer (some ⟨wr.heap.size, 0, none⟩))) := by
  obtain ⟨cs, hc, hn, hp⟩ := h.hc
  have hlt : w.heap.size < wr.heap.size := by rw [h.sz]; omega
  have hB1 : Below wr.heap.size wr (wr.alloc (.cells #[.int .i64 (room : Int), .slice none 0 0] 58)) := (Below.refl _ _).alloc (Nat.le_refl _) _
  have hc1 : (wr.alloc (.cells #[.int .i64 (room : Int), .slice none 0 0] 58)).heap[w.heap.size]? = some (.cells cs 24 (0, 0)) := (hB1.block _ hlt).trans hc
  have hO : Out (fun k => k = w.heap.size) (wr.alloc (.cells #[.int .i64 (room : Int), .slice none 0 0] 58)) ((wr.alloc (.cells #[.int .i64 (room : Int), .slice none 0 0] 58)).setCell ⟨w.heap.size, i, none⟩ (.pointer (some ⟨wr.heap.size, 0, none⟩))) := Out.set rfl
  have hsz1 : (wr.alloc (.cells #[.int .i64 (room : Int), .slice none 0 0] 58)).heap.size = wr.heap.size + 1 := by simp
  refine ⟨?_, ?_, ⟨cs.setIfInBounds i (.pointer (some ⟨wr.heap.size, 0, none⟩)), heap_set hc1 _ _, by simpa using hn, ?_⟩, ?_⟩
  · exact h.bel.trans ((hB1.mono (by omega)).trans (hO.below (by omega) (fun k hk => by omega)))
  · rw [size_set, hsz1, h.sz]; omega
  · intro j hj
    by_cases e : j = i
    · subst e
      rw [Array.getElem?_setIfInBounds_self_of_lt (by omega), h.sz]
    · rw [Array.getElem?_setIfInBounds_ne (fun e' => e e'.symm)]
      exact hp j (by omega)
  · intro j hj
    rw [hO.block _ (by rw [hsz1, h.sz]; omega) (by omega)]
    by_cases e : j = i
    · subst e
      rw [← h.sz]
      exact heap_alloc_new wr _
    · rw [hB1.block _ (by rw [h.sz]; omega)]
      exact h.qs j (by omega)

theorem Mk.la {w wr : World} {n room N : Nat} (h : Mk w n room n wr) (hN : N ≤ w.heap.size) (hn1 : 1 ≤ n) (hn : n ≤ 64) (hr : room ≤ 64) :
    La N (fun i => w.heap.size ≤ i ∧ i < w.heap.size + (n + 2)) (wr.alloc (.cells #[.slice (some ⟨w.heap.size, 0, none⟩) n n, .int .i64 0] 63)) (w.heap.size + 1 + n) n room 0 (fun _ => []) := by
  obtain ⟨cs, hc, hcn, hp⟩ := h.hc
  have hB1 : Below wr.heap.size wr (wr.alloc (.cells #[.slice (some ⟨w.heap.size, 0, none⟩) n n, .int .i64 0] 63)) := (Below.refl _ _).alloc (Nat.le_refl _) _
  have hsz1 : (wr.alloc (.cells #[.slice (some ⟨w.heap.size, 0, none⟩) n n, .int .i64 0] 63)).heap.size = wr.heap.size + 1 := by simp
  have hsz := h.sz
  refine ⟨w.heap.size, fun i => w.heap.size + 1 + i, fun i g => g = w.heap.size + 1 + i, ?_, ⟨cs, (hB1.block _ (by omega)).trans hc, hp⟩, ?_, ?_, ?_, ⟨by omega, by omega⟩, ⟨by omega, by omega⟩, hn1, hn, by omega, fun i hi => by omega, fun i hi => by omega⟩
  · rw [← hsz]
    exact heap_alloc_new wr _
  · intro i hi
    refine ⟨⟨.slice none 0 0, (hB1.block _ (by omega)).trans (h.qs i hi), Ow.nil _ _, by simp [Value.ownBlock]⟩, Nat.zero_le _, hr, rfl, ?_, ?_⟩
    · rintro g rfl; omega
    · rintro g rfl; omega
  · rintro i hi g rfl
    exact ⟨⟨by omega, by omega⟩, by omega, by omega⟩
  · rintro i j hi hj hne g rfl e
    omega

set_option maxRecDepth 100000 in
set_option maxHeartbeats 2000000 in
theorem newLanes_any (N n room : Nat) (w : World) (hN : N ≤ w.heap.size) (hn1 : 1 ≤ n) (hn : n ≤ 64) (hr1 : 1 ≤ room) (hr : room ≤ 64) :
    Calls Try.prog 20 #[.int .i64 (n : Int), .int .i64 (room : Int)] w fun e w' => e = .returned (.pointer (some ⟨w.heap.size + 1 + n, 0, none⟩)) ∧ La N (fun i => w.heap.size ≤ i ∧ i < w.heap.size + (n + 2)) w' (w.heap.size + 1 + n) n room 0 (fun _ => []) ∧ Below w.heap.size w w' := by
  have HP1 : Hid ((decide (1 ≤ (n : Int)) && decide ((n : Int) ≤ 64)) = true) := by show _ = _; simp; omega
  have HP2 : Hid ((decide (1 ≤ (room : Int)) && decide ((room : Int) ≤ 64)) = true) := by show _ = _; simp; omega
  have HLA : Hid (∀ wr, Mk w n room n wr → La N (fun i => w.heap.size ≤ i ∧ i < w.heap.size + (n + 2)) (wr.alloc (.cells #[.slice (some ⟨w.heap.size, 0, none⟩) n n, .int .i64 0] 63)) (w.heap.size + 1 + n) n room 0 (fun _ => []) ∧ wr.heap.size = w.heap.size + 1 + n ∧ Below w.heap.size w (wr.alloc (.cells #[.slice (some ⟨w.heap.size, 0, none⟩) n n, .int .i64 0] 63))) := fun wr h => ⟨h.la hN hn1 hn hr, h.sz, h.bel.trans (((Below.refl _ _).alloc (by have := h.sz; omega) _).mono (Nat.le_refl _))⟩
  have HR : Hid (1 ≤ room ∧ room ≤ 64) := ⟨hr1, hr⟩
  obtain ⟨cs0, hcs0, hmk⟩ := run_mk n hn w
  have HST : Hid (Mk w n room 0 (w.alloc (.cells cs0 24))) := ⟨(Below.refl _ _).alloc (Nat.le_refl _) _, by simp, ⟨_, heap_alloc_new w _, hcs0, fun j hj => by omega⟩, fun j hj => by omega⟩
  clear hcs0
  clear hr1 hr
  go_enter Try.func20, Try.ntmps20
  go_wp2_with fail
  refine (possible_any _ _).mono ?_
  rintro e w1 ⟨rfl, hw1⟩
  subst w1
  rw [HP1.out]
  go_wp2_with fail
  refine (possible_any _ _).mono ?_
  rintro e w1 ⟨rfl, hw1⟩
  subst w1
  rw [HP2.out]
  go_wp2
  go_loopw [19] (fun kv wr => ∃ k : Nat, kv = .int .i64 (k : Int) ∧ k ≤ n ∧ Mk w n room k wr) (fun kv _ => n - (intOf kv).toNat)
  case atStart => exact ⟨0, rfl, Nat.zero_le _, by simpa using HST.out⟩
  case round =>
    obtain ⟨k, rfl, hk, hM⟩ := hrel
    have HM : Hid (Mk w n room k wr) := hM
    by_cases hkn : k < n
    · obtain ⟨cs, hc, hcn, -⟩ := (hM.step hkn).hc
      have hki : (k : Int) < (n : Int) := by omega
      have HN : Hid (∀ w', Calls Try.prog 10 #[.int .i64 (room : Int)] w' fun e w'' => e = .returned (.pointer (some ⟨w'.heap.size, 0, none⟩)) ∧ w'' = w'.alloc (.cells #[.int .i64 (room : Int), .slice none 0 0] 58)) := fun w' => new_any room w' HR.out.1 HR.out.2
      have HC : Hid ((wr.alloc (.cells #[.int .i64 (room : Int), .slice none 0 0] 58)).frozen? ⟨w.heap.size, k, none⟩ = false ∧ ∃ u, (wr.alloc (.cells #[.int .i64 (room : Int), .slice none 0 0] 58)).cell? ⟨w.heap.size, k, none⟩ = some u) := by
        obtain ⟨cs, hc, hn', -⟩ := hM.hc
        have hlt : w.heap.size < wr.heap.size := by rw [hM.sz]; omega
        have hB1 : Below wr.heap.size wr (wr.alloc (.cells #[.int .i64 (room : Int), .slice none 0 0] 58)) := (Below.refl _ _).alloc (Nat.le_refl _) _
        have hc1 := (hB1.block _ hlt).trans hc
        refine ⟨?_, cs[k]'(by omega), ?_⟩
        · simp only [World.frozen?, hc1]; simp
        · simp only [World.cell?, hc1]
          exact Array.getElem?_eq_getElem (by omega)
      have HS : Hid (Mk w n room (k + 1) ((wr.alloc (.cells #[.int .i64 (room : Int), .slice none 0 0] 58)).setCell ⟨w.heap.size, k, none⟩ (.pointer (some ⟨wr.heap.size, 0, none⟩)))) := hM.step hkn
      clear hM hc hcn
      go_wp2_with (go_at_call 10; refine (HN.out _).mono ?_; rintro e w1 ⟨rfl, rfl⟩; obtain ⟨hfz, u, hcu⟩ := HC.out)
      exact ⟨⟨k + 1, by go_num, by omega, by simpa using HS.out⟩, by simp [intOf]; omega⟩
    · have hki : decide ((k : Int) < (n : Int)) = false := by simp; omega
      obtain rfl : k = n := by omega
      obtain ⟨h1, h2, h3⟩ := HLA.out wr hM
      have H1 : Hid _ := h1
      have H3 : Hid _ := h3
      have H2 : Hid _ := h2
      clear hM h1 h3 h2 HLA HST
      go_wp2
      go_ret
      exact ⟨by rw [← H2.out]; rfl, H1.out, H3.out⟩

theorem newLanes_none (n room : Int) (w : World) (h : (decide (1 ≤ n) && decide (n ≤ 64)) = false ∨ (decide (1 ≤ room) && decide (room ≤ 64)) = false) :
    Calls Try.prog 20 #[.int .i64 n, .int .i64 room] w fun e w' => e = .returned (.pointer none) ∧ w' = w := by
  have HQ : Hid (∀ m w', Calls Try.prog 33 #[.int .i64 m] w' fun e w'' => e = .returned (.bool (decide (1 ≤ m) && decide (m ≤ 64))) ∧ w'' = w') := possible_any
  cases h1 : (decide (1 ≤ n) && decide (n ≤ 64)) with
  | false =>
    have H1 : Hid ((decide (1 ≤ n) && decide (n ≤ 64)) = false) := h1
    clear h h1
    go_enter Try.func20, Try.ntmps20
    go_wp2_with (go_at_call 33; refine (HQ.out _ _).mono ?_; rintro e w1 ⟨rfl, hw1⟩; subst w1; rw [H1.out])
    go_ret
    exact ⟨rfl, rfl⟩
  | true =>
    have H1 : Hid ((decide (1 ≤ n) && decide (n ≤ 64)) = true) := h1
    have H2 : Hid ((decide (1 ≤ room) && decide (room ≤ 64)) = false) := h.resolve_left (by rw [h1]; simp)
    clear h h1
    go_enter Try.func20, Try.ntmps20
    go_wp2_with fail
    refine (HQ.out _ _).mono ?_
    rintro e w1 ⟨rfl, hw1⟩
    subst w1
    rw [H1.out]
    go_wp2_with fail
    refine (HQ.out _ _).mono ?_
    rintro e w1 ⟨rfl, hw1⟩
    subst w1
    rw [H2.out]
    go_wp2
    go_ret
    exact ⟨rfl, rfl⟩

theorem SinfoP : (Try.prog.info? 66).map (fun i => (i.zero, i.size, i.bytes)) = some (some (.pointer none), 1, 8) := by kernel_rfl
theorem Srun_mk (n : Nat) (hn : n ≤ 64) (w : World) : ∃ cs : Array Value, cs.size = n ∧ (Instr.makeSlice 65 (.int .i64 (n : Int)) (.int .i64 (n : Int))).run Try.prog w = .ok (.slice (some ⟨w.heap.size, 0, none⟩) n n) (w.alloc (.cells cs 66)) := by
  obtain ⟨i0, hi, hz0, hz1, hz2⟩ := info_parts SinfoP
  have h := run_make (P := Try.prog) w 65 66 i0 (.pointer none) Try.underlying65 hi hz0 .i64 .i64 n n (by omega) (by omega) (by rw [hz2]; omega) (by omega)
  rw [hz1] at h
  simp only [Int.toNat_natCast, Nat.mul_one] at h
  exact ⟨_, size_madeCells _ _, h⟩

/-- i queues are made, behind the row of pointers in block c. -/
structure SMk (w : World) (n room i : Nat) (wr : World) : Prop where
  bel : Below w.heap.size w wr
  sz : wr.heap.size = w.heap.size + 1 + i
  hc : ∃ cs : Array Value, wr.heap[w.heap.size]? = some (.cells cs 66 (0, 0)) ∧ cs.size = n ∧ ∀ j, j < i → cs[j]? = some (.pointer (some ⟨w.heap.size + 1 + j, 0, none⟩))
  qs : ∀ j, j < i → wr.heap[w.heap.size + 1 + j]? = some (.cells #[.int .i64 (room : Int), .slice none 0 0] 78 (0, 0))

theorem SMk.step {w wr : World} {n room i : Nat} (h : SMk w n room i wr) (hi : i < n) : SMk w n room (i + 1) ((wr.alloc (.cells #[.int .i64 (room : Int), .slice none 0 0] 78)).setCell ⟨w.heap.size, i, none⟩ (.pointer (some ⟨wr.heap.size, 0, none⟩))) := by
  obtain ⟨cs, hc, hn, hp⟩ := h.hc
  have hlt : w.heap.size < wr.heap.size := by rw [h.sz]; omega
  have hB1 : Below wr.heap.size wr (wr.alloc (.cells #[.int .i64 (room : Int), .slice none 0 0] 78)) := (Below.refl _ _).alloc (Nat.le_refl _) _
  have hc1 : (wr.alloc (.cells #[.int .i64 (room : Int), .slice none 0 0] 78)).heap[w.heap.size]? = some (.cells cs 66 (0, 0)) := (hB1.block _ hlt).trans hc
  have hO : Out (fun k => k = w.heap.size) (wr.alloc (.cells #[.int .i64 (room : Int), .slice none 0 0] 78)) ((wr.alloc (.cells #[.int .i64 (room : Int), .slice none 0 0] 78)).setCell ⟨w.heap.size, i, none⟩ (.pointer (some ⟨wr.heap.size, 0, none⟩))) := Out.set rfl
  have hsz1 : (wr.alloc (.cells #[.int .i64 (room : Int), .slice none 0 0] 78)).heap.size = wr.heap.size + 1 := by simp
  refine ⟨?_, ?_, ⟨cs.setIfInBounds i (.pointer (some ⟨wr.heap.size, 0, none⟩)), heap_set hc1 _ _, by simpa using hn, ?_⟩, ?_⟩
  · exact h.bel.trans ((hB1.mono (by omega)).trans (hO.below (by omega) (fun k hk => by omega)))
  · rw [size_set, hsz1, h.sz]; omega
  · intro j hj
    by_cases e : j = i
    · subst e
      rw [Array.getElem?_setIfInBounds_self_of_lt (by omega), h.sz]
    · rw [Array.getElem?_setIfInBounds_ne (fun e' => e e'.symm)]
      exact hp j (by omega)
  · intro j hj
    rw [hO.block _ (by rw [hsz1, h.sz]; omega) (by omega)]
    by_cases e : j = i
    · subst e
      rw [← h.sz]
      exact heap_alloc_new wr _
    · rw [hB1.block _ (by rw [h.sz]; omega)]
      exact h.qs j (by omega)

theorem SMk.la {w wr : World} {n room N : Nat} (h : SMk w n room n wr) (hN : N ≤ w.heap.size) (hn1 : 1 ≤ n) (hn : n ≤ 64) (hr : room ≤ 64) :
    SLa N (fun i => w.heap.size ≤ i ∧ i < w.heap.size + (n + 2)) (wr.alloc (.cells #[.slice (some ⟨w.heap.size, 0, none⟩) n n, .int .i64 0] 69)) (w.heap.size + 1 + n) n room 0 (fun _ => []) := by
  obtain ⟨cs, hc, hcn, hp⟩ := h.hc
  have hB1 : Below wr.heap.size wr (wr.alloc (.cells #[.slice (some ⟨w.heap.size, 0, none⟩) n n, .int .i64 0] 69)) := (Below.refl _ _).alloc (Nat.le_refl _) _
  have hsz1 : (wr.alloc (.cells #[.slice (some ⟨w.heap.size, 0, none⟩) n n, .int .i64 0] 69)).heap.size = wr.heap.size + 1 := by simp
  have hsz := h.sz
  refine ⟨w.heap.size, fun i => w.heap.size + 1 + i, fun i g => g = w.heap.size + 1 + i, ?_, ⟨cs, (hB1.block _ (by omega)).trans hc, hp⟩, ?_, ?_, ?_, ⟨by omega, by omega⟩, ⟨by omega, by omega⟩, hn1, hn, by omega, fun i hi => by omega, fun i hi => by omega⟩
  · rw [← hsz]
    exact heap_alloc_new wr _
  · intro i hi
    refine ⟨⟨.slice none 0 0, (hB1.block _ (by omega)).trans (h.qs i hi), SOw.nil _ _, by simp [Value.ownBlock]⟩, Nat.zero_le _, hr, rfl, ?_, ?_⟩
    · rintro g rfl; omega
    · rintro g rfl; omega
  · rintro i hi g rfl
    exact ⟨⟨by omega, by omega⟩, by omega, by omega⟩
  · rintro i j hi hj hne g rfl e
    omega

set_option maxRecDepth 100000 in
set_option maxHeartbeats 2000000 in
theorem SnewLanes_any (N n room : Nat) (w : World) (hN : N ≤ w.heap.size) (hn1 : 1 ≤ n) (hn : n ≤ 64) (hr1 : 1 ≤ room) (hr : room ≤ 64) :
    Calls Try.prog 30 #[.int .i64 (n : Int), .int .i64 (room : Int)] w fun e w' => e = .returned (.pointer (some ⟨w.heap.size + 1 + n, 0, none⟩)) ∧ SLa N (fun i => w.heap.size ≤ i ∧ i < w.heap.size + (n + 2)) w' (w.heap.size + 1 + n) n room 0 (fun _ => []) ∧ Below w.heap.size w w' := by
  have HP1 : Hid ((decide (1 ≤ (n : Int)) && decide ((n : Int) ≤ 64)) = true) := by show _ = _; simp; omega
  have HP2 : Hid ((decide (1 ≤ (room : Int)) && decide ((room : Int) ≤ 64)) = true) := by show _ = _; simp; omega
  have HLA : Hid (∀ wr, SMk w n room n wr → SLa N (fun i => w.heap.size ≤ i ∧ i < w.heap.size + (n + 2)) (wr.alloc (.cells #[.slice (some ⟨w.heap.size, 0, none⟩) n n, .int .i64 0] 69)) (w.heap.size + 1 + n) n room 0 (fun _ => []) ∧ wr.heap.size = w.heap.size + 1 + n ∧ Below w.heap.size w (wr.alloc (.cells #[.slice (some ⟨w.heap.size, 0, none⟩) n n, .int .i64 0] 69))) := fun wr h => ⟨h.la hN hn1 hn hr, h.sz, h.bel.trans (((Below.refl _ _).alloc (by have := h.sz; omega) _).mono (Nat.le_refl _))⟩
  have HR : Hid (1 ≤ room ∧ room ≤ 64) := ⟨hr1, hr⟩
  obtain ⟨cs0, hcs0, hmk⟩ := Srun_mk n hn w
  have HST : Hid (SMk w n room 0 (w.alloc (.cells cs0 66))) := ⟨(Below.refl _ _).alloc (Nat.le_refl _) _, by simp, ⟨_, heap_alloc_new w _, hcs0, fun j hj => by omega⟩, fun j hj => by omega⟩
  clear hcs0
  clear hr1 hr
  go_enter Try.func30, Try.ntmps30
  go_wp2_with fail
  refine (possible_any _ _).mono ?_
  rintro e w1 ⟨rfl, hw1⟩
  subst w1
  rw [HP1.out]
  go_wp2_with fail
  refine (possible_any _ _).mono ?_
  rintro e w1 ⟨rfl, hw1⟩
  subst w1
  rw [HP2.out]
  go_wp2
  go_loopw [19] (fun kv wr => ∃ k : Nat, kv = .int .i64 (k : Int) ∧ k ≤ n ∧ SMk w n room k wr) (fun kv _ => n - (intOf kv).toNat)
  case atStart => exact ⟨0, rfl, Nat.zero_le _, by simpa using HST.out⟩
  case round =>
    obtain ⟨k, rfl, hk, hM⟩ := hrel
    have HM : Hid (SMk w n room k wr) := hM
    by_cases hkn : k < n
    · obtain ⟨cs, hc, hcn, -⟩ := (hM.step hkn).hc
      have hki : (k : Int) < (n : Int) := by omega
      have HN : Hid (∀ w', Calls Try.prog 41 #[.int .i64 (room : Int)] w' fun e w'' => e = .returned (.pointer (some ⟨w'.heap.size, 0, none⟩)) ∧ w'' = w'.alloc (.cells #[.int .i64 (room : Int), .slice none 0 0] 78)) := fun w' => Snew_any room w' HR.out.1 HR.out.2
      have HC : Hid ((wr.alloc (.cells #[.int .i64 (room : Int), .slice none 0 0] 78)).frozen? ⟨w.heap.size, k, none⟩ = false ∧ ∃ u, (wr.alloc (.cells #[.int .i64 (room : Int), .slice none 0 0] 78)).cell? ⟨w.heap.size, k, none⟩ = some u) := by
        obtain ⟨cs, hc, hn', -⟩ := hM.hc
        have hlt : w.heap.size < wr.heap.size := by rw [hM.sz]; omega
        have hB1 : Below wr.heap.size wr (wr.alloc (.cells #[.int .i64 (room : Int), .slice none 0 0] 78)) := (Below.refl _ _).alloc (Nat.le_refl _) _
        have hc1 := (hB1.block _ hlt).trans hc
        refine ⟨?_, cs[k]'(by omega), ?_⟩
        · simp only [World.frozen?, hc1]; simp
        · simp only [World.cell?, hc1]
          exact Array.getElem?_eq_getElem (by omega)
      have HS : Hid (SMk w n room (k + 1) ((wr.alloc (.cells #[.int .i64 (room : Int), .slice none 0 0] 78)).setCell ⟨w.heap.size, k, none⟩ (.pointer (some ⟨wr.heap.size, 0, none⟩)))) := hM.step hkn
      clear hM hc hcn
      go_wp2_with (go_at_call 41; refine (HN.out _).mono ?_; rintro e w1 ⟨rfl, rfl⟩; obtain ⟨hfz, u, hcu⟩ := HC.out)
      exact ⟨⟨k + 1, by go_num, by omega, by simpa using HS.out⟩, by simp [intOf]; omega⟩
    · have hki : decide ((k : Int) < (n : Int)) = false := by simp; omega
      obtain rfl : k = n := by omega
      obtain ⟨h1, h2, h3⟩ := HLA.out wr hM
      have H1 : Hid _ := h1
      have H3 : Hid _ := h3
      have H2 : Hid _ := h2
      clear hM h1 h3 h2 HLA HST
      go_wp2
      go_ret
      exact ⟨by rw [← H2.out]; rfl, H1.out, H3.out⟩

theorem SnewLanes_none (n room : Int) (w : World) (h : (decide (1 ≤ n) && decide (n ≤ 64)) = false ∨ (decide (1 ≤ room) && decide (room ≤ 64)) = false) :
    Calls Try.prog 30 #[.int .i64 n, .int .i64 room] w fun e w' => e = .returned (.pointer none) ∧ w' = w := by
  have HQ : Hid (∀ m w', Calls Try.prog 33 #[.int .i64 m] w' fun e w'' => e = .returned (.bool (decide (1 ≤ m) && decide (m ≤ 64))) ∧ w'' = w') := possible_any
  cases h1 : (decide (1 ≤ n) && decide (n ≤ 64)) with
  | false =>
    have H1 : Hid ((decide (1 ≤ n) && decide (n ≤ 64)) = false) := h1
    clear h h1
    go_enter Try.func30, Try.ntmps30
    go_wp2_with (go_at_call 33; refine (HQ.out _ _).mono ?_; rintro e w1 ⟨rfl, hw1⟩; subst w1; rw [H1.out])
    go_ret
    exact ⟨rfl, rfl⟩
  | true =>
    have H1 : Hid ((decide (1 ≤ n) && decide (n ≤ 64)) = true) := h1
    have H2 : Hid ((decide (1 ≤ room) && decide (room ≤ 64)) = false) := h.resolve_left (by rw [h1]; simp)
    clear h h1
    go_enter Try.func30, Try.ntmps30
    go_wp2_with fail
    refine (HQ.out _ _).mono ?_
    rintro e w1 ⟨rfl, hw1⟩
    subst w1
    rw [H1.out]
    go_wp2_with fail
    refine (HQ.out _ _).mono ?_
    rintro e w1 ⟨rfl, hw1⟩
    subst w1
    rw [H2.out]
    go_wp2
    go_ret
    exact ⟨rfl, rfl⟩

end Go.Proofs.Ythaoobfldponpaa
