/-
  Clear: slices.IndexFunc, slices.DeleteFunc.
-/
import Derived.Test.YtefbfjlmhfmiiaaMv
namespace Go.Proofs.Ytefbfjlmhfmiiaa
open Go.RowKit
set_option linter.unusedVariables false

set_option maxRecDepth 100000 in
set_option maxHeartbeats 1000000 in
/-- Is it for that one? -/
theorem clo_any (T : Nat) (to : Int) (n f t : Int) (x : Value) (s : Bool) (w : World) (hT : w.cell? ⟨T, 0, none⟩ = some (.int .i64 to)) (hTw : T < w.heap.size) (ho : x.oneCell' = true) :
    Calls Try.prog 45 #[.agg #[.int .i64 n, .int .i64 f, .int .i64 t, x, .bool s], .pointer (some ⟨T, 0, none⟩)] w fun e w' => e = .returned (.bool (t == to)) ∧ Below w.heap.size w w' := by
  have HB : Hid (∀ o, Below w.heap.size w (w.alloc o)) := fun o => (Below.refl _ w).alloc (Nat.le_refl _) _
  go_enter Try.func45, Try.ntmps45
  go_wp2
  go_ret
  exact ⟨rfl, HB.out _⟩

def IdxR (es : List Ml) (to : Int) (w : World) (e : Ending) (w' : World) : Prop :=
  Below w.heap.size w w' ∧ ((e = .returned (.int .i64 (-1)) ∧ ∀ j, j < es.length → (es.getD j nilMl).t ≠ to) ∨ ∃ k : Nat, e = .returned (.int .i64 (k : Int)) ∧ k < es.length ∧ (es.getD k nilMl).t = to ∧ ∀ j, j < k → (es.getD j nilMl).t ≠ to)

set_option maxRecDepth 100000 in
set_option maxHeartbeats 4000000 in
theorem index_any (T : Nat) (to : Int) (va : Option Addr) (cap : Nat) (es : List Ml) (w : World) (hE : MlsAt w.heap.size w va es) (hn : es.length ≤ 100000) (hT : w.cell? ⟨T, 0, none⟩ = some (.int .i64 to)) (hTw : T < w.heap.size) :
    Calls Try.prog 52 #[.slice va es.length cap, .func (.func 45) #[] #[.pointer (some ⟨T, 0, none⟩)]] w fun e w' => IdxR es to w e w' := by
  have HE : Hid (MlsAt w.heap.size w va es) := hE
  clear hE
  have HT : Hid (w.cell? ⟨T, 0, none⟩ = some (.int .i64 to)) := hT
  clear hT
  go_enter Try.func52, Try.ntmps52
  go_wp2_with fail
  go_loopw [8] (fun iv wr => ∃ (k : Nat), iv = .int .i64 (k : Int) ∧ k ≤ es.length ∧ (∀ j, j < k → (es.getD j nilMl).t ≠ to) ∧ Below w.heap.size w wr) (fun iv _ => es.length - (intOf iv).toNat)
  case atStart => exact ⟨0, rfl, Nat.zero_le _, fun j hj => by omega, Below.refl _ _⟩
  case round =>
    obtain ⟨k, rfl, hk, hj, hB⟩ := hrel
    have HJ : Hid (∀ j, j < k → (es.getD j nilMl).t ≠ to) := hj
    have HB : Hid (Below w.heap.size w wr) := hB
    clear hj hB
    by_cases hlt : k < es.length
    · obtain ⟨b, off, hea, hb, he⟩ := HE.out.at hlt
      subst hea
      have he1 := he.below hb HB.out
      have HK1 : Hid ((es.getD k nilMl).t = to ∨ ∀ j, j < k + 1 → (es.getD j nilMl).t ≠ to) := by
        by_cases ht : (es.getD k nilMl).t = to
        · exact .inl ht
        · refine .inr (fun j hj => ?_)
          by_cases e : j = k
          · subst e; exact ht
          · exact HJ.out j (by omega)
      have HK2 : Hid (∀ e : Ml, e = es.getD k nilMl → e.t = to → (es.getD k nilMl).t = to) := fun e h1 h2 => h1 ▸ h2
      obtain ⟨e, hee⟩ : ∃ e, es.getD k nilMl = e := ⟨_, rfl⟩
      rw [hee] at he1 HK1
      have HEE : Hid (es.getD k nilMl = e) := hee
      clear hee he
      obtain ⟨c0, c1, c2, c3, c4, -⟩ := he1
      unfold Ml.x at c3
      have i0 : (0 : Int) ≤ (k : Int) := by omega
      have i1 : (k : Int) < (es.length : Int) := by omega
      have hbw : b < wr.heap.size := by have := HB.out.size; omega
      have HC : Hid (Calls _ _ _ _ _) := clo_any T to e.n e.f e.t (.slice e.a e.d.length e.c) e.s wr ((HB.out.cell (p := ⟨T, 0, none⟩) hTw).trans HT.out) (by have := HB.out.size; omega) rfl
      by_cases ht : e.t = to
      · have HTT : Hid ((es.getD k nilMl).t = to) := by show _ = _; rw [HEE.out]; exact ht
        rw [show (e.t == to) = true by simpa using ht] at HC
        clear HK1 HK2 ht
        go_wp2_with (go_at_call 45; refine HC.out.mono ?_; rintro r w2 ⟨rfl, hB2⟩; have HB2 : Hid (Below w.heap.size w w2) := HB.out.trans (hB2.mono HB.out.size); clear hB2)
        go_ret
        exact ⟨HB2.out, .inr ⟨k, rfl, hlt, HTT.out, HJ.out⟩⟩
      · have HK3 : Hid (∀ j, j < k + 1 → (es.getD j nilMl).t ≠ to) := HK1.out.resolve_left ht
        rw [show (e.t == to) = false by simpa using ht] at HC
        clear HK1 HK2 ht
        go_wp2_with (go_at_call 45; refine HC.out.mono ?_; rintro r w2 ⟨rfl, hB2⟩; have HB2 : Hid (Below w.heap.size w w2) := HB.out.trans (hB2.mono HB.out.size); clear hB2)
        exact ⟨⟨k + 1, by go_num, by omega, HK3.out, HB2.out⟩, by simp [intOf]; omega⟩
    · have hkn : (es.length : Int) ≤ (k : Int) := by omega
      go_wp2
      go_ret
      exact ⟨HB.out, .inl ⟨rfl, fun j hj => HJ.out j (by omega)⟩⟩

/-- Those for others. -/
def keepE (to : Int) (es : List Ml) : List Ml := es.filter (fun e => e.t != to)
theorem keepE_take_succ {to : Int} {es : List Ml} {k : Nat} (h : k < es.length) : keepE to (es.take (k + 1)) = if (es.getD k nilMl).t = to then keepE to (es.take k) else keepE to (es.take k) ++ [es.getD k nilMl] := by
  rw [take_succ' h]
  unfold keepE
  rw [List.filter_append]
  by_cases ht : (es.getD k nilMl).t = to
  · rw [if_pos ht, List.filter_cons_of_neg (by simpa using ht)]; simp
  · rw [if_neg ht, List.filter_cons_of_pos (by simpa using ht)]; rfl
theorem keepE_front {to : Int} {es : List Ml} : ∀ k, k ≤ es.length → (∀ j, j < k → (es.getD j nilMl).t ≠ to) → keepE to (es.take k) = es.take k
  | 0, _, _ => by simp [keepE]
  | k + 1, hk, h => by
    rw [keepE_take_succ (by omega), if_neg (h k (by omega)), keepE_front k (by omega) (fun j hj => h j (by omega)), ← take_succ' (by omega)]
theorem keepE_le (to : Int) (es : List Ml) (k : Nat) : (keepE to (es.take k)).length ≤ k := by
  unfold keepE
  exact Nat.le_trans (List.length_filter_le _ _) (by simp; omega)

/-- The row while it is gone through: those kept lie in front, from k on all is as it was. -/
structure DF (g cap : Nat) (to : Int) (es : List Ml) (w wr : World) (k : Nat) : Prop where
  blk : ∃ cur, wr.heap[g]? = some (.cells cur 41 (0, 0)) ∧ cur.size = cap * 5 ∧ (∀ j, j < (keepE to (es.take k)).length * 5 → cur.toList[j]? = (mlCells (keepE to (es.take k)))[j]?) ∧ ∀ j, k * 5 ≤ j → j < es.length * 5 → cur.toList[j]? = (mlCells es)[j]?
  out : Out (fun j => j = g) w wr
  lt : (keepE to (es.take k)).length < k

theorem DF.drop {g cap : Nat} {to : Int} {es : List Ml} {w wr w2 : World} {k : Nat} (h : DF g cap to es w wr k) (hg : g < w.heap.size) (hB : Below wr.heap.size wr w2) (hk : k < es.length) (ht : (es.getD k nilMl).t = to) : DF g cap to es w w2 (k + 1) := by
  obtain ⟨cur, h1, h2, h3, h4⟩ := h.blk
  have e := keepE_take_succ (to := to) hk
  rw [if_pos ht] at e
  refine ⟨⟨cur, (hB.block g (Nat.lt_of_lt_of_le hg h.out.size)).trans h1, h2, by rw [e]; exact h3, fun j hj hj2 => h4 j (by omega) hj2⟩, h.out.trans (Y := fun _ => False) (Out.of_below hB) (fun _ hf _ => hf.elim), by rw [e]; have := h.lt; omega⟩
theorem DF.keep {g cap : Nat} {to : Int} {es : List Ml} {w wr w2 w3 : World} {k i : Nat} (h : DF g cap to es w wr k) (hg : g < w.heap.size) (hc : es.length ≤ cap) (hB : Below wr.heap.size wr w2) (hk : k < es.length) (ht : ¬ (es.getD k nilMl).t = to) (hi : (keepE to (es.take k)).length = i) (e : Ml) (he : es.getD k nilMl = e) (h3 : w3 = w2.setCells g (i * 5) (mlCells [e])) : DF g cap to es w w3 (k + 1) ∧ (keepE to (es.take (k + 1))).length = i + 1 := by
  obtain ⟨cur, c1, c2, c3, c4⟩ := h.blk
  have e1 := keepE_take_succ (to := to) hk
  rw [if_neg ht, he] at e1
  have hlt := h.lt
  have hb2 := (hB.block g (Nat.lt_of_lt_of_le hg h.out.size)).trans c1
  obtain ⟨cur', q1, q2, q3⟩ := heap_setCells g (mlCells [e]) (i * 5) w2 cur 41 (0, 0) hb2
  obtain ⟨o1, o2⟩ := out_setCells g (mlCells [e]) (i * 5) w2
  have hl5 : (mlCells [e]).length = 5 := rfl
  have hel : (keepE to (es.take (k + 1))).length = i + 1 := by rw [e1, List.length_append, hi]; rfl
  have hsz : es.length * 5 ≤ cur.size := by rw [c2]; omega
  subst h3
  refine ⟨⟨⟨cur', q1, q2.trans c2, fun j hj => ?_, fun j hj hj2 => ?_⟩, (h.out.trans (Y := fun _ => False) (Out.of_below hB) (fun _ hf _ => hf.elim)).trans o1 (fun _ hi _ => hi), by omega⟩, hel⟩
  · rw [hel] at hj
    have hml : (mlCells (keepE to (es.take k))).length = i * 5 := by rw [mlCells_length, hi]
    rw [q3 j, e1, mlCells_append, hl5]
    by_cases hj1 : j < i * 5
    · rw [if_neg (by omega), List.getElem?_append_left (by omega)]
      exact c3 j (by rw [hi]; exact hj1)
    · rw [if_pos (by omega), List.getElem?_append_right (by omega), hml]
  · rw [q3 j, hl5, if_neg (by omega)]
    exact c4 j (by omega) hj2

def DelR (g cap : Nat) (to : Int) (es : List Ml) (w : World) (e : Ending) (w' : World) : Prop :=
  e = .returned (.slice (some ⟨g, 0, none⟩) (keepE to es).length cap) ∧ MlsOw 41 0 w' (.slice (some ⟨g, 0, none⟩) (keepE to es).length cap) (keepE to es) ∧ Out (fun j => j = g) w w'

set_option maxRecDepth 100000 in
set_option maxHeartbeats 4000000 in
theorem deleteFunc_any (T : Nat) (to : Int) (g cap : Nat) (es : List Ml) (w : World) (h : MlsOw 41 0 w (.slice (some ⟨g, 0, none⟩) es.length cap) es) (hp : 0 < es.length) (hn : es.length ≤ 100000) (hT : w.cell? ⟨T, 0, none⟩ = some (.int .i64 to)) (hTw : T < w.heap.size) (hTg : T ≠ g) :
    Calls Try.prog 44 #[.slice (some ⟨g, 0, none⟩) es.length cap, .func (.func 45) #[] #[.pointer (some ⟨T, 0, none⟩)]] w fun e w' => DelR g cap to es w e w' := by
  obtain ⟨g', cur, hge, hgb, hcs, hlc, hcm, hcc⟩ := h.open hp
  cases hge
  have hgw : g < w.heap.size := (Array.getElem?_eq_some_iff.1 hgb).1
  have HIX : Hid (Calls _ _ _ _ _) := index_any T to (some ⟨g, 0, none⟩) cap es w h.at hn hT hTw
  have HH : Hid (MlsOw 41 0 w (.slice (some ⟨g, 0, none⟩) es.length cap) es) := h
  have HT : Hid (w.cell? ⟨T, 0, none⟩ = some (.int .i64 to)) := hT
  have HST : Hid (∀ w1 k, Below w.heap.size w w1 → k < es.length → (es.getD k nilMl).t = to → (∀ j, j < k → (es.getD j nilMl).t ≠ to) → DF g cap to es w w1 (k + 1) ∧ (keepE to (es.take (k + 1))).length = k) := fun w1 k hB hk ht hj => by
    have e1 := keepE_take_succ (to := to) hk
    rw [if_pos ht, keepE_front k (by omega) hj] at e1
    have hl : (es.take k).length = k := by simp; omega
    refine ⟨⟨⟨cur, (hB.block g hgw).trans hgb, hcs, fun j hj' => ?_, fun j hj1 hj2 => hcc j hj2⟩, Out.of_below hB, by rw [e1, hl]; omega⟩, by rw [e1, hl]⟩
    rw [e1, hl] at hj'
    rw [e1, mlCells_take, List.getElem?_take, if_pos hj']
    exact hcc j (by omega)
  have HALL : Hid ((∀ j, j < es.length → (es.getD j nilMl).t ≠ to) → keepE to es = es) := fun hj => by
    have := keepE_front (to := to) es.length (Nat.le_refl _) hj
    rwa [List.take_length] at this
  -- the end
  have HEND : Hid (∀ wr i, DF g cap to es w wr es.length → (keepE to (es.take es.length)).length = i → i < es.length ∧ ∃ zs, (∀ ty, (Builtin.clear_ #[33] ty #[.slice (some ⟨g, i * 5, none⟩) (es.length - i) (cap - i)]).run Try.prog wr = .ok (.tuple #[]) (wr.setCells g (i * 5) zs)) ∧ DelR g cap to es w (.returned (.slice (some ⟨g, 0, none⟩) i cap)) (wr.setCells g (i * 5) zs)) := fun wr i hD hi => by
    obtain ⟨c2, q1, q2, q3, q4⟩ := hD.blk
    have hlt := hD.lt
    rw [List.take_length] at q3 hi hlt
    have hcell : ∀ j, j < cap * 5 → (wr.cell? ⟨g, j, none⟩).isSome = true ∧ wr.frozen? ⟨g, j, none⟩ = false := fun j hj => by
      refine ⟨?_, by simp [World.frozen?, q1]⟩
      simp only [World.cell?, q1]
      rw [Array.getElem?_eq_getElem (by omega)]
      rfl
    obtain ⟨zs, hzl, hcl⟩ := run_clear_mls tyM wr 0 g (i * 5) (es.length - i) (cap - i) (by omega) (fun j hj => (hcell _ (by omega)).1) (fun j hj => (hcell _ (by omega)).2)
    refine ⟨by omega, zs, fun ty => by rw [← hcl]; rfl, ?_⟩
    obtain ⟨c3, r1, r2, r3⟩ := heap_setCells g zs (i * 5) wr c2 41 (0, 0) q1
    obtain ⟨o1, o2⟩ := out_setCells g zs (i * 5) wr
    have hO := hD.out.trans o1 (fun _ hi _ => hi)
    refine ⟨by rw [hi], ?_, hO⟩
    refine MlsOw.of (τ := 41) (cap := cap) r1 (by omega) hcm (by omega) (fun j hj => ?_) (fun e he => ?_)
    · rw [r3 j, if_neg (by omega)]
      exact q3 j hj
    · have he' : e ∈ es := (List.mem_filter.1 he).1
      exact (HH.out.dat e he').out hO (by rintro k hk rfl; exact (HH.out.dat e he').not_at hgb (by decide) hk)
  have HHM : Hid (∀ wr : World, Out (fun j => j = g) w wr → (∃ cur, wr.heap[g]? = some (.cells cur 41 (0, 0)) ∧ cur.size = cap * 5) → T < wr.heap.size ∧ wr.cell? ⟨T, 0, none⟩ = some (.int .i64 to) ∧ g < wr.heap.size) := fun wr hO _ => by
    have := hO.size
    refine ⟨by omega, ?_, by omega⟩
    rw [← HT.out]
    simp only [World.cell?]
    rw [hO.block T hTw hTg]
  unfold maxLen at hcm
  have HCS : Hid (cur.size = cap * 5) := hcs
  clear h hT hcc hcs hgb
  go_enter Try.func44, Try.ntmps44
  go_wp2_with fail
  refine HIX.out.mono ?_
  rintro r w1 ⟨hB1, ⟨rfl, hnone⟩ | ⟨k0, rfl, hk0, ht0, hj0⟩⟩
  · have HR : Hid (DelR g cap to es w (.returned (.slice (some ⟨g, 0, none⟩) es.length cap)) w1) := by
      have e := HALL.out hnone
      show DelR _ _ _ _ _ _ _
      unfold DelR
      rw [e]
      exact ⟨rfl, HH.out.below hB1, Out.of_below hB1⟩
    clear hnone hB1
    go_wp2
    go_ret
    exact HR.out
  · obtain ⟨hD, hDl⟩ := HST.out w1 k0 hB1 hk0 ht0 hj0
    have HD : Hid (DF g cap to es w w1 (k0 + 1)) := hD
    have HDL : Hid ((keepE to (es.take (k0 + 1))).length = k0) := hDl
    have hne : ((k0 : Int) == -1) = false := by simp
    clear hD hDl hB1 ht0 hj0 HST HALL HIX
    go_wp2_with fail
    go_loopw [5, 6] (fun iv jv wr => ∃ (i j : Nat), iv = .int .i64 (i : Int) ∧ jv = .int .i64 (j : Int) ∧ j ≤ es.length ∧ i < j ∧ DF g cap to es w wr j ∧ (keepE to (es.take j)).length = i) (fun _ jv _ => es.length - (intOf jv).toNat)
    case atStart => exact ⟨k0, k0 + 1, rfl, by go_num, by omega, by omega, HD.out, HDL.out⟩
    case round =>
      obtain ⟨i, j, rfl, rfl, hj, hij, hD, hDl⟩ := hrel
      have HD : Hid (DF g cap to es w wr j) := hD
      have HDL : Hid ((keepE to (es.take j)).length = i) := hDl
      obtain ⟨cur2, hb2, hc2, -, hc3⟩ := hD.blk
      obtain ⟨hTr, hTc, hgr⟩ := HHM.out wr hD.out ⟨cur2, hb2, hc2⟩
      clear hD hDl
      by_cases hlt : j < es.length
      · obtain ⟨e, hee⟩ : ∃ e, es.getD j nilMl = e := ⟨_, rfl⟩
        have HEE : Hid (es.getD j nilMl = e) := hee
        have hcell : ∀ o v, o < 5 → (mlCells es)[j * 5 + o]? = some v → wr.cell? ⟨g, j * 5 + o, none⟩ = some v := fun o v ho hv => by
          simp only [World.cell?, hb2]
          rw [← hv, ← hc3 (j * 5 + o) (by omega) (by omega)]
          simp
        obtain ⟨a0, a1, a2, a3, a4⟩ := mlCells_at es j hlt
        rw [hee] at a0 a1 a2 a3 a4
        have c0 := hcell 0 _ (by omega) a0
        have c1 := hcell 1 _ (by omega) a1
        have c2 := hcell 2 _ (by omega) a2
        have c3 := hcell 3 _ (by omega) a3
        have c4 := hcell 4 _ (by omega) a4
        rw [Nat.add_zero] at c0
        unfold Ml.x at c3
        clear hee a0 a1 a2 a3 a4 hcell
        obtain ⟨W1, hW1⟩ : ∃ W1, wr.alloc (.cells #[.int .i64 e.n, .int .i64 e.f, .int .i64 e.t, .slice e.a e.d.length e.c, .bool e.s] 41) = W1 := ⟨_, rfl⟩
        have HW1 : Hid (wr.alloc (.cells #[.int .i64 e.n, .int .i64 e.f, .int .i64 e.t, .slice e.a e.d.length e.c, .bool e.s] 41) = W1) := hW1
        have hBa : Below wr.heap.size wr W1 := by rw [← hW1]; exact (Below.refl _ wr).alloc (Nat.le_refl _) _
        have hXa : W1.heap[wr.heap.size]? = some (.cells #[.int .i64 e.n, .int .i64 e.f, .int .i64 e.t, .slice e.a e.d.length e.c, .bool e.s] 41 (0, 0)) := by rw [← hW1]; exact heap_alloc_new wr _
        have hzW : W1.heap.size = wr.heap.size + 1 := by rw [← hW1]; simp
        have hwk1 : IntKind.i64.wrap ((i : Int) + 1) = (i : Int) + 1 := by rw [IntKind.wrap_i64]; omega
        have HC : Hid (Calls _ _ _ _ _) := clo_any T to e.n e.f e.t (.slice e.a e.d.length e.c) e.s W1 ((hBa.cell (p := ⟨T, 0, none⟩) hTr).trans hTc) (by omega) rfl
        have j0 : (0 : Int) ≤ (j : Int) := by omega
        have j1 : (j : Int) < (es.length : Int) := by omega
        have i0 : (0 : Int) ≤ (i : Int) := by omega
        have i1 : (i : Int) < (es.length : Int) := by omega
        have HXX : Hid (∀ w2, Below W1.heap.size W1 w2 → Below wr.heap.size wr w2 ∧ w2.heap[wr.heap.size]? = some (.cells #[.int .i64 e.n, .int .i64 e.f, .int .i64 e.t, .slice e.a e.d.length e.c, .bool e.s] 41 (0, 0)) ∧ w2.heap[g]? = some (.cells cur2 41 (0, 0)) ∧ g < w2.heap.size ∧ wr.heap.size < w2.heap.size) := fun w2 h2 => by
          have := h2.size
          exact ⟨hBa.trans (h2.mono (by omega)), (h2.block _ (by omega)).trans hXa, (h2.block g (by omega)).trans ((hBa.block g hgr).trans hb2), by omega, by omega⟩
        have HGC : Hid (∀ w2 : World, w2.heap[g]? = some (.cells cur2 41 (0, 0)) → ∀ o, o < 5 → (∃ u, w2.cell? ⟨g, i * 5 + o, none⟩ = some u) ∧ w2.frozen? ⟨g, i * 5 + o, none⟩ = false) := fun w2 h2 o ho => by
          refine ⟨⟨cur2[i * 5 + o]'(by omega), ?_⟩, by simp [World.frozen?, h2]⟩
          simp only [World.cell?, h2]
          rw [Array.getElem?_eq_getElem (by omega)]
          rfl
        clear hW1 hBa hXa hzW hb2 hc2 hc3 HHM HEND HH hTc hTr
        by_cases ht : e.t = to
        · have HDR : Hid (∀ w2, Below wr.heap.size wr w2 → DF g cap to es w w2 (j + 1) ∧ (keepE to (es.take (j + 1))).length = i) := fun w2 hB2 => by
            refine ⟨HD.out.drop hgw hB2 hlt (by rw [HEE.out]; exact ht), ?_⟩
            rw [keepE_take_succ hlt, if_pos (by rw [HEE.out]; exact ht)]
            exact HDL.out
          rw [show (e.t == to) = true by simpa using ht] at HC
          clear ht HGC
          go_wp2_with fail
          try rw [HW1.out]
          refine HC.out.mono ?_
          rintro r w2 ⟨rfl, hB2⟩
          obtain ⟨hB2', -⟩ := HXX.out w2 hB2
          obtain ⟨hD2, hDl2⟩ := HDR.out w2 hB2'
          have HD2 : Hid (DF _ _ _ _ _ _ _) := hD2
          have HDL2 : Hid (_ = i) := hDl2
          clear hB2 hB2' hD2 hDl2 HDR HXX
          go_wp2
          exact ⟨⟨i, j + 1, rfl, by go_num, by omega, by omega, HD2.out, HDL2.out⟩, by simp [intOf]; omega⟩
        · have HKP : Hid (∀ w2 w3, Below wr.heap.size wr w2 → w3 = w2.setCells g (i * 5) (mlCells [e]) → DF g cap to es w w3 (j + 1) ∧ (keepE to (es.take (j + 1))).length = i + 1) := fun w2 w3 hB2 h3 =>
            HD.out.keep hgw hlc hB2 hlt (by rw [HEE.out]; exact ht) HDL.out e HEE.out h3
          rw [show (e.t == to) = false by simpa using ht] at HC
          clear ht
          go_wp2_with fail
          try rw [HW1.out]
          refine HC.out.mono ?_
          rintro r w2 ⟨rfl, hB2⟩
          obtain ⟨hB2', hX2, hg2, hgw2, hwr2⟩ := HXX.out w2 hB2
          obtain ⟨⟨x0, x1, x2, x3, x4⟩, -⟩ := cells5 hX2
          obtain ⟨⟨u0, k0⟩, f0⟩ := HGC.out w2 hg2 0 (by omega)
          obtain ⟨⟨u1, k1⟩, f1⟩ := HGC.out w2 hg2 1 (by omega)
          obtain ⟨⟨u2, k2⟩, f2⟩ := HGC.out w2 hg2 2 (by omega)
          obtain ⟨⟨u3, k3⟩, f3⟩ := HGC.out w2 hg2 3 (by omega)
          obtain ⟨⟨u4, k4⟩, f4⟩ := HGC.out w2 hg2 4 (by omega)
          rw [Nat.add_zero] at k0 f0
          have HKK : Hid (∀ w3, _ → _) := fun w3 => HKP.out w2 w3 hB2'
          clear hB2 hB2' hX2 hg2 HXX HGC HKP
          go_wp2
          obtain ⟨d1, d2⟩ := HKK.out (((((w2.setCell ⟨g, i * 5, none⟩ (.int .i64 e.n)).setCell ⟨g, i * 5 + 1, none⟩ (.int .i64 e.f)).setCell ⟨g, i * 5 + 2, none⟩ (.int .i64 e.t)).setCell ⟨g, i * 5 + 3, none⟩ (.slice e.a e.d.length e.c)).setCell ⟨g, i * 5 + 4, none⟩ (.bool e.s)) rfl
          exact ⟨⟨i + 1, j + 1, by go_num, by go_num, by omega, by omega, d1, d2⟩, by simp [intOf]; omega⟩
      · have hje : j = es.length := by omega
        subst hje
        obtain ⟨hil, zs, hcl, hR⟩ := HEND.out wr i HD.out HDL.out
        have HR : Hid (DelR _ _ _ _ _ _ _) := hR
        have hil' : i ≤ es.length := by omega
        have hic : i ≤ cap := by omega
        have hci : ¬ cap = i := by omega
        have hcl0 := hcl
        clear hR HEND HH HD HDL hb2 hc2 hc3 HHM hlt hj
        generalize wr.setCells g (i * 5) zs = W9 at *
        go_wp2
        go_ret
        exact HR.out
end Go.Proofs.Ytefbfjlmhfmiiaa
