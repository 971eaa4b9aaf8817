/-
  Checks of entries; copies; a log made anew.
-/
import Derived.Test.YteekpfgjpdopmaaLg
namespace Go.Proofs.Yteekpfgjpdopmaa
open Go.RowKit
set_option linter.unusedVariables false

set_option maxRecDepth 100000 in
set_option maxHeartbeats 400000 in
theorem within_any (n a b : Int) (w : World) : Calls Try.prog 83 #[.int .i64 n, .int .i64 a, .int .i64 b] w fun e w' => e = .returned (.bool (isIn n a b)) ∧ w' = w := by
  unfold isIn
  by_cases h : a ≤ n
  · have h' : decide (a ≤ n) = true := by simpa using h
    go_enter Try.func83, Try.ntmps83
    go_wp2
    go_ret
    exact ⟨by simp [h], rfl⟩
  · have h' : decide (a ≤ n) = false := by simpa using h
    go_enter Try.func83, Try.ntmps83
    go_wp2
    go_ret
    exact ⟨by simp, rfl⟩

set_option maxRecDepth 100000 in
set_option maxHeartbeats 1000000 in
theorem ckEntry_any (t i k : Int) (a : Option Addr) (n cap : Nat) (w : World) : Calls Try.prog 70 #[.agg #[], .agg #[.int .i64 t, .int .i64 i, .int .i64 k, .slice a n cap]] w fun e w' => e = .returned (.int .i64 (ckEntry t i k n : Int)) ∧ Below w.heap.size w w' := by
  have HB : Hid (∀ o0 o1, Below w.heap.size w ((w.alloc o0).alloc o1)) := fun _ _ => (((Below.refl _ w).alloc (by simp) _).alloc (by simp) _)
  go_enter Try.func70, Try.ntmps70
  go_wp2_with ((go_at_call 83; refine (within_any _ _ _ _).mono ?_; rintro e w' ⟨rfl, hw⟩; subst w'))
  all_goals
    go_ret
    refine ⟨?_, HB.out _ _⟩
    first
    | (simp_all [ckEntry]; done)
    | (simp_all [ckEntry]; split <;> omega)

theorem cells4 {w : World} {b : Nat} {t : TypeId} {v0 v1 v2 v3 : Value} (h : w.heap[b]? = some (.cells #[v0, v1, v2, v3] t (0, 0))) :
    (w.cell? ⟨b, 0, none⟩ = some v0 ∧ w.cell? ⟨b, 1, none⟩ = some v1 ∧ w.cell? ⟨b, 2, none⟩ = some v2 ∧ w.cell? ⟨b, 3, none⟩ = some v3) ∧ ∀ o, w.frozen? ⟨b, o, none⟩ = false := by
  refine ⟨⟨?_, ?_, ?_, ?_⟩, ?_⟩
  all_goals (first | (simp only [World.cell?, h]; rfl) | skip)
  intro o
  simp [World.frozen?, h]

theorem set4 {w : World} {B : Nat} {x0 x1 x2 x3 : Value} {t : TypeId} (h : w.heap[B]? = some (.cells #[x0, x1, x2, x3] t (0, 0))) (y0 y1 y2 y3 : Value) :
    ((((w.setCell ⟨B, 0, none⟩ y0).setCell ⟨B, 1, none⟩ y1).setCell ⟨B, 2, none⟩ y2).setCell ⟨B, 3, none⟩ y3).heap[B]? = some (.cells #[y0, y1, y2, y3] t (0, 0)) := by
  rw [heap_set (heap_set (heap_set (heap_set h 0 y0) 1 y1) 2 y2) 3 y3]; rfl
theorem results_E {fn : Func} {t : Tmp} (h : fn.results = #[.cell t 40]) (tmps : Array Value) (w : World) (B : Nat) {x0 x1 x2 x3 : Value} (ht : tmps.getD t undef = .pointer (some ⟨B, 0, none⟩)) (hb : w.heap[B]? = some (.cells #[x0, x1, x2, x3] 40 (0, 0))) :
    (results fn tmps).run Try.prog w = .ok (.agg #[x0, x1, x2, x3]) w := by
  obtain ⟨⟨c0, c1, c2, c3⟩, -⟩ := cells4 hb
  have ht' : tmps[t]?.getD undef = .pointer (some ⟨B, 0, none⟩) := by rw [← Array.getD_eq_getD_getElem?]; exact ht
  simp [results, h, ht', asAddr, loadVar, c0, c1, c2, c3, go_sem]

set_option maxRecDepth 100000 in
set_option maxHeartbeats 1000000 in
/-- own. -/
theorem own_any (t i k : Int) (a : Option Addr) (d : List UInt8) (cap M : Nat) (w : World) (hs : Sl M w (.slice a d.length cap) d) (hM : M ≤ w.heap.size) (hd : d.length ≤ 1000000000) :
    Calls Try.prog 71 #[.agg #[.int .i64 t, .int .i64 i, .int .i64 k, .slice a d.length cap]] w fun e w' => ∃ xa xc, e = .returned (.agg #[.int .i64 t, .int .i64 i, .int .i64 k, .slice xa d.length xc]) ∧ Ow w.heap.size w' (.slice xa d.length xc) d ∧ Below w.heap.size w w' := by
  obtain ⟨W2, hW2⟩ : ∃ W2, (w.alloc (.cells #[.int .i64 t, .int .i64 i, .int .i64 k, .slice a d.length cap] 40)).alloc (.cells #[.int .i64 0, .int .i64 0, .int .i64 0, .slice none 0 0] 40) = W2 := ⟨_, rfl⟩
  have HW2 : Hid ((w.alloc (.cells #[.int .i64 t, .int .i64 i, .int .i64 k, .slice a d.length cap] 40)).alloc (.cells #[.int .i64 0, .int .i64 0, .int .i64 0, .slice none 0 0] 40) = W2) := hW2
  have HZ : Hid (W2.heap.size = w.heap.size + 2) := by show W2.heap.size = _; rw [← hW2]; simp
  have HB : Hid (Below w.heap.size w W2) := by show Below _ _ _; rw [← hW2]; exact ((Below.refl _ w).alloc (by simp) _).alloc (by simp) _
  have hs2 := hs.below (HB.out.mono hM)
  have HX : Hid (∀ w1, W2.grownBy w1 none → w1.heap[w.heap.size]? = some (.cells #[.int .i64 t, .int .i64 i, .int .i64 k, .slice a d.length cap] 40 (0, 0)) ∧ w1.heap[w.heap.size + 1]? = some (.cells #[.int .i64 0, .int .i64 0, .int .i64 0, .slice none 0 0] 40 (0, 0))) := fun w1 hg => by
    refine ⟨(hg.block _ (by rw [HZ.out]; omega) (by simp)).trans ?_, (hg.block _ (by rw [HZ.out]; omega) (by simp)).trans ?_⟩
    · rw [← hW2]
      exact (heap_alloc_old _ _ (by simp)).trans (heap_alloc_new w _)
    · rw [← hW2]
      have := heap_alloc_new (w.alloc (.cells #[.int .i64 t, .int .i64 i, .int .i64 k, .slice a d.length cap] 40)) (.cells #[.int .i64 0, .int .i64 0, .int .i64 0, .slice none 0 0] 40)
      rw [World.size_alloc] at this
      exact this
  obtain ⟨hx0, hx1⟩ := HX.out W2 (grown_refl _ _)
  obtain ⟨⟨c0, c1, c2, c3⟩, -⟩ := cells4 hx0
  have HO0 := Ow.nil (w.heap.size) W2
  have hlen : ([] : List UInt8).length + d.length ≤ 1099511627776 := by simp; omega
  have hNN : w.heap.size ≤ W2.heap.size := by rw [HZ.out]; omega
  clear hs hx0 hx1 hW2
  go_enter Try.func71, Try.ntmps71
  go_wp2_with (at_builtin; rw [HW2.out]; refine wpList_append_ow rfl _ _ rfl w.heap.size M _ _ [] d rfl HO0 rfl hs2 hlen hNN ?_; intro v' w1 hO hg _; obtain ⟨hx0, hx1⟩ := HX.out w1 hg; obtain ⟨⟨b0, b1, b2, b3⟩, bf⟩ := cells4 hx0; obtain ⟨⟨d0, d1, d2, d3⟩, df⟩ := cells4 hx1; obtain ⟨xa, xc, rfl, -, -⟩ := hO.shape; clear hs2; simp only [List.nil_append] at hO)
  have hx1' : (w1.setCell ⟨w.heap.size, 3, none⟩ (.slice xa d.length xc)).heap[w.heap.size + 1]? = some (.cells #[.int .i64 0, .int .i64 0, .int .i64 0, .slice none 0 0] 40 (0, 0)) := (Below.heap_setCell _ _ _ _ (by simp)).trans hx1
  have hO1 : Out (fun j => j = w.heap.size ∨ j = w.heap.size + 1) w1 (((((w1.setCell ⟨w.heap.size, 3, none⟩ (.slice xa d.length xc)).setCell ⟨w.heap.size + 1, 0, none⟩ (.int .i64 t)).setCell ⟨w.heap.size + 1, 1, none⟩ (.int .i64 i)).setCell ⟨w.heap.size + 1, 2, none⟩ (.int .i64 k)).setCell ⟨w.heap.size + 1, 3, none⟩ (.slice xa d.length xc)) :=
    (((((Out.refl _ w1).put (.inl rfl)).put (.inr rfl)).put (.inr rfl)).put (.inr rfl)).put (.inr rfl)
  refine bodyPost_ret (results_E rfl _ _ (w.heap.size + 1) rfl (set4 hx1' _ _ _ _)) rfl ?_
  refine ⟨xa, xc, rfl, hO.out hO1 ?_, ?_⟩
  · rintro g hg' (rfl | rfl)
    · exact hO.not_at hx0 (by decide) hg'
    · exact hO.not_at hx1 (by decide) hg'
  · have hB1 : Below w.heap.size w w1 := HB.out.grown hg hNN (fun k e => by cases e)
    exact hB1.trans (hO1.below hB1.size (fun j hj => by omega))

theorem infoParts : ∃ i0, Try.prog.info? 40 = some i0 ∧ i0.zero = some (.agg #[.int .i64 0, .int .i64 0, .int .i64 0, .slice none 0 0]) ∧ i0.size = 4 ∧ i0.bytes = 48 := info_parts infoE

theorem entCells_set (fs : List Ent) (n k : Nat) (e : Ent) (cur : List Value) (hk : k < n) (hc : cur.length = n * 4) (hf : fs.length = k) (ht : cur.take (k * 4) = entCells fs) :
    ((((cur.set (k * 4) (.int .i64 e.t)).set (k * 4 + 1) (.int .i64 e.i)).set (k * 4 + 2) (.int .i64 e.k)).set (k * 4 + 3) e.x).take ((k + 1) * 4) = entCells (fs ++ [e]) := by
  rw [entCells_append, ← ht]
  apply List.ext_getElem?
  intro j
  simp only [entCells, List.append_nil]
  rw [List.getElem?_take]
  by_cases hj : j < (k + 1) * 4
  · rw [if_pos hj]
    by_cases h0 : j < k * 4
    · rw [List.getElem?_append_left (by simp; omega), List.getElem?_take, if_pos h0]
      simp [List.getElem?_set]
      repeat rw [if_neg (by omega)]
    · rw [List.getElem?_append_right (by simp; omega)]
      have hl : (cur.take (k * 4)).length = k * 4 := by simp; omega
      rw [hl]
      have : j = k * 4 ∨ j = k * 4 + 1 ∨ j = k * 4 + 2 ∨ j = k * 4 + 3 := by omega
      rcases this with rfl | rfl | rfl | rfl
      · simp [List.getElem?_set]; omega
      · simp [List.getElem?_set]; omega
      · simp [List.getElem?_set]; omega
      · simp [List.getElem?_set]; omega
  · rw [if_neg hj, List.getElem?_eq_none]
    simp; omega

set_option maxRecDepth 100000 in
set_option maxHeartbeats 2000000 in
/-- copies. -/
theorem copies_any (va : Option Addr) (vc : Nat) (es : List Ent) (M : Nat) (w : World) (hE : EntsAt M w va es) (hM : M ≤ w.heap.size) (hn : es.length ≤ 100000) (hd : ∀ e ∈ es, e.d.length ≤ 1000000000) :
    Calls Try.prog 42 #[.slice va es.length vc] w fun e w' => ∃ v fs, e = .returned v ∧ EntsOw w.heap.size w' v fs ∧ fs.map Ent.says = es.map Ent.says ∧ Below w.heap.size w w' := by
  obtain ⟨i0, hi, hz0, hz1, hz2⟩ := infoParts
  obtain ⟨W1, hmk, hrow, hgr⟩ := run_makeSlice_full (P := Try.prog) w w.heap.size 34 40 i0 _ 4 Try.underlying34 hi hz0 hz1 .i64 .i64 es.length (by omega) (by rw [hz2]; omega) (by unfold maxLen; omega) (Nat.le_refl _)
  clear hi hz0 hz1 hz2
  have HE : Hid (EntsAt M w va es) := hE
  clear hE
  obtain ⟨G, hG⟩ : ∃ G, w.heap.size = G := ⟨_, rfl⟩
  have HG : Hid (w.heap.size = G) := hG
  have HW1 : Hid (∃ cur, W1.heap[G]? = some (.cells cur 40 (0, 0)) ∧ cur.size = es.length * 4) := by
    rcases hrow.2 with ⟨hv, _⟩ | ⟨g, cap, cur, hv, hg, hb, h1, h2, h3, h4⟩
    · cases hv
    · cases hv
      exact ⟨cur, by rw [← hG]; exact hb, h3⟩
  have HB1 : Hid (Below G w W1) := by show Below _ _ _; rw [← hG]; exact (Below.refl _ w).grown hgr (Nat.le_refl _) (fun k e => by cases e)
  rw [hG] at hmk hM
  clear hrow hgr
  rw [hG]
  clear hG
  go_enter Try.func42, Try.ntmps42
  go_wp2
  go_loopw [11] (fun iv wr => ∃ (k : Nat) (fs : List Ent) (cur : Array Value), iv = .int .i64 (k : Int) ∧ k ≤ es.length ∧ fs.length = k ∧ fs.map Ent.says = (es.take k).map Ent.says ∧ wr.heap[G]? = some (.cells cur 40 (0, 0)) ∧ cur.size = es.length * 4 ∧ cur.toList.take (k * 4) = entCells fs ∧ (∀ e ∈ fs, Ow G wr e.x e.d) ∧ Below G w wr) (fun iv _ => es.length - (intOf iv).toNat)
  case atStart =>
    obtain ⟨cur, h1, h2⟩ := HW1.out
    exact ⟨0, [], cur, rfl, Nat.zero_le _, rfl, rfl, h1, h2, by simp [entCells], by simp, HB1.out⟩
  case round =>
    obtain ⟨k, fs, cur, rfl, hk, hf, hsy, hb, hcs, hct, hda, hB⟩ := hrel
    have HF : Hid (fs.length = k) := hf
    have HSY : Hid (fs.map Ent.says = (es.take k).map Ent.says) := hsy
    have HCB : Hid (wr.heap[G]? = some (.cells cur 40 (0, 0))) := hb
    have HCS : Hid (cur.size = es.length * 4) := hcs
    have HCT : Hid (cur.toList.take (k * 4) = entCells fs) := hct
    have HDA : Hid (∀ e ∈ fs, Ow G wr e.x e.d) := hda
    have HB : Hid (Below G w wr) := hB
    have hGw : G < wr.heap.size := (Array.getElem?_eq_some_iff.1 hb).1
    clear hf hsy hb hcs hct hda hB
    by_cases hlt : k < es.length
    · obtain ⟨b, off, hea, hbM, he⟩ := HE.out.at hlt
      subst hea
      have he' := he.below hbM (HB.out.mono hM)
      have hdl : (es.getD k nilEnt).d.length ≤ 1000000000 := hd _ (by rw [List.getD_eq_getElem?_getD, List.getElem?_eq_getElem hlt]; exact List.getElem_mem hlt)
      have HTK : Hid (es.take (k + 1) = es.take k ++ [es.getD k nilEnt]) := take_succ' hlt
      generalize es.getD k nilEnt = e at *
      obtain ⟨et, ei, ek, eaa, ecc, ed⟩ := e
      obtain ⟨c0, c1, c2, c3, c4⟩ := he'
      unfold Ent.x at c3 c4
      simp only at c0 c1 c2 c3 c4 hdl
      have hbw : b < wr.heap.size := by have := HB.out.size; have := HG.out; omega
      have hB0 : Below wr.heap.size wr (wr.alloc (.cells #[.int .i64 et, .int .i64 ei, .int .i64 ek, .slice eaa ed.length ecc] 40)) := (Below.refl _ wr).alloc (Nat.le_refl _) _
      have hoC := own_any et ei ek eaa ed ecc M (wr.alloc (.cells #[.int .i64 et, .int .i64 ei, .int .i64 ek, .slice eaa ed.length ecc] 40)) (c4.below (hB0.mono (by have := HB.out.size; have := HG.out; omega))) (by simp; have := HB.out.size; have := HG.out; omega) hdl
      have HCA : Hid (∀ w5, Below wr.heap.size wr w5 → w5.heap[G]? = some (.cells cur 40 (0, 0))) := fun w5 h5 => (h5.block _ hGw).trans HCB.out
      have HCE : Hid (∀ (w5 : World) (j : Nat), w5.heap[G]? = some (.cells cur 40 (0, 0)) → j < es.length * 4 → (∃ u, w5.cell? ⟨G, j, none⟩ = some u) ∧ w5.frozen? ⟨G, j, none⟩ = false) := fun w5 j h5 hj => by
        have hc := HCS.out
        refine ⟨⟨cur[j]'(by omega), ?_⟩, by simp [World.frozen?, h5]⟩
        simp only [World.cell?, h5]
        rw [Array.getElem?_eq_getElem (by omega)]
        rfl
      have i0 : (0 : Int) ≤ (k : Int) := by omega
      have i1 : (k : Int) < (es.length : Int) := by omega
      clear he c4 hd HE
      go_wp2_with (go_at_call 71; refine hoC.mono ?_; rintro r w5 ⟨xa, xc, rfl, hO5, hB5⟩; have hB5' : Below wr.heap.size wr w5 := hB0.trans (hB5.mono (by simp)); have HGB := HCA.out w5 hB5'; obtain ⟨⟨u0, g0⟩, f0⟩ := HCE.out w5 (k * 4) HGB (by omega); obtain ⟨⟨u1, g1⟩, f1⟩ := HCE.out w5 (k * 4 + 1) HGB (by omega); obtain ⟨⟨u2, g2⟩, f2⟩ := HCE.out w5 (k * 4 + 2) HGB (by omega); obtain ⟨⟨u3, g3⟩, f3⟩ := HCE.out w5 (k * 4 + 3) HGB (by omega); have HO5 : Hid (Ow _ _ _ _) := hO5; have HB5 : Hid (Below _ _ _) := hB5'; clear hO5 hB5 hB5' hoC hB0)
      have hO1 : Out (fun j => j = G) w5 ((((w5.setCell ⟨G, k * 4, none⟩ (.int .i64 et)).setCell ⟨G, k * 4 + 1, none⟩ (.int .i64 ei)).setCell ⟨G, k * 4 + 2, none⟩ (.int .i64 ek)).setCell ⟨G, k * 4 + 3, none⟩ (.slice xa ed.length xc)) :=
        ((((Out.refl (fun j => j = G) w5).put rfl).put rfl).put rfl).put rfl
      refine ⟨⟨k + 1, fs ++ [⟨et, ei, ek, xa, xc, ed⟩], _, by go_num, by omega, by simp [HF.out], ?_, heap_set (heap_set (heap_set (heap_set HGB _ _) _ _) _ _) _ _, by simp [HCS.out], ?_, ?_, ?_⟩, by simp [intOf]; omega⟩
      · rw [HTK.out, List.map_append, List.map_append, HSY.out]; rfl
      · have := entCells_set fs es.length k ⟨et, ei, ek, xa, xc, ed⟩ cur.toList hlt (by simpa using HCS.out) HF.out HCT.out
        simpa [Ent.x] using this
      · intro e he
        rcases List.mem_append.1 he with he | he
        · exact ((HDA.out e he).below HB5.out (Nat.le_refl _)).out hO1 (by rintro g hg rfl; exact ((HDA.out e he).below HB5.out (Nat.le_refl _)).not_at HGB (by decide) hg)
        · obtain rfl := List.mem_singleton.1 he
          exact (HO5.out.base (by simp; omega)).out hO1 (by rintro g hg rfl; exact HO5.out.not_at HGB (by decide) hg)
      · have hB5 : Below G w w5 := HB.out.trans (HB5.out.mono (by omega))
        exact hB5.trans (hO1.below (by have := HB5.out.size; omega) (fun j hj => by omega))
    · have hkn : k = es.length := by omega
      go_wp2
      go_returns
      have hfl : fs.length = es.length := HF.out.trans hkn
      have hct : cur.toList.take (fs.length * 4) = entCells fs := by rw [HF.out]; exact HCT.out
      refine ⟨.slice (some ⟨G, 0, none⟩) es.length es.length, fs, rfl, ⟨⟨entCells_length fs, .inr ⟨G, es.length, cur, by rw [hfl], Nat.le_refl _, HCB.out, by omega, by unfold maxLen; omega, HCS.out, hct⟩⟩, HDA.out⟩, ?_, HB.out⟩
      rw [HSY.out, List.take_of_length_le (by omega)]
end Go.Proofs.Yteekpfgjpdopmaa
