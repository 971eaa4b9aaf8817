/-
  LinSerial.
-/
import Derived.Test.YtbcnpdpdflkanaaSp
import Derived.Test.YtbcnpdpdflkanaaRin
namespace Go.Proofs.Ytbcnpdpdflkanaa
open Go.RowKit

/-- Operations of the call's own. -/
def OOw (N : Nat) (w : World) (v : Value) (l : List Lo) : Prop := w.ownsRow N 35 10 v l.length (l.flatMap fun x => x.cells.toList)
theorem OOw.hat {N M : Nat} {w : World} {a : Option Addr} {cap : Nat} {l : List Lo} (h : OOw N w (.slice a l.length cap) l) (hM : w.heap.size ≤ M) : HAt M w a l := by
  rcases Nat.eq_zero_or_pos l.length with e | e
  · exact .inl (List.length_eq_zero_iff.1 e)
  · obtain ⟨g, rfl, -, hg⟩ := row_ptr h e
    refine .inr ⟨g, 0, rfl, by omega, fun i hi => ?_⟩
    have key : ∀ j, j < 10 → w.cell? ⟨g, 0 + i * 10 + j, none⟩ = some ((oat l i).cells.toList.getD j undef) := fun j hj => by
      rw [Nat.zero_add, (row_cell h (by omega)).1]
      have h1 := flat_get (fun x : Lo => x.cells.toList) (sz := 10) (fun _ => rfl) l i j hi hj
      rw [List.getD_eq_getElem?_getD, h1]
      have ho : oat l i = l[i] := by unfold oat; rw [List.getElem?_eq_getElem hi]; rfl
      rw [ho, ← List.getD_eq_getElem?_getD]
    exact ⟨key 0 (by omega), key 1 (by omega), key 2 (by omega), key 3 (by omega), key 4 (by omega), key 5 (by omega), key 6 (by omega), key 7 (by omega), key 8 (by omega), key 9 (by omega)⟩
theorem lo_one (x : Lo) : ∀ u ∈ x.cells.toList, u.oneCell' = true := by
  intro u hu
  simp only [Lo.cells, str, List.mem_cons, List.not_mem_nil, or_false] at hu
  rcases hu with rfl | rfl | rfl | rfl | rfl | rfl | rfl | rfl | rfl | rfl <;> rfl
theorem OOw.snoc {N : Nat} {w : World} {v : Value} {l : List Lo} {x : Lo} (h : w.ownsRow N 35 10 v (l.length + 1) ((l.flatMap fun x => x.cells.toList) ++ x.cells.toList)) : OOw N w v (l ++ [x]) := by
  unfold OOw
  rw [List.flatMap_append]
  simpa using h

theorem cells10 {w : World} {b : Nat} {t : TypeId} {v0 v1 v2 v3 v4 v5 v6 v7 v8 v9 : Value} (h : w.heap[b]? = some (.cells #[v0, v1, v2, v3, v4, v5, v6, v7, v8, v9] t (0, 0))) :
    (w.cell? ⟨b, 0, none⟩ = some v0 ∧ w.cell? ⟨b, 1, none⟩ = some v1 ∧ w.cell? ⟨b, 2, none⟩ = some v2 ∧ w.cell? ⟨b, 3, none⟩ = some v3 ∧ w.cell? ⟨b, 4, none⟩ = some v4 ∧ w.cell? ⟨b, 5, none⟩ = some v5 ∧ w.cell? ⟨b, 6, none⟩ = some v6 ∧ w.cell? ⟨b, 7, none⟩ = some v7 ∧ w.cell? ⟨b, 8, none⟩ = some v8 ∧ w.cell? ⟨b, 9, none⟩ = some v9) ∧ ∀ o, w.frozen? ⟨b, o, none⟩ = false := by
  refine ⟨⟨?_, ?_, ?_, ?_, ?_, ?_, ?_, ?_, ?_, ?_⟩, fun o => by simp [World.frozen?, h]⟩
  all_goals (simp only [World.cell?, h]; rfl)
theorem news10 {n : Nat} (w : World) (cs : Array Value) (hn : w.heap.size = n) (τ : TypeId) : ∀ j u, cs.toList[j]? = some u → (w.alloc (.cells cs τ)).cell? ((⟨n, 0, none⟩ : Addr).add j) = some u := by
  subst hn; exact news_at w cs τ
theorem wrap64_eq {n : Int} (h1 : -9223372036854775808 ≤ n) (h2 : n ≤ 9223372036854775807) : wrap64 n = n := by
  first
    | (unfold wrap64; rw [IntKind.wrap_i64]; omega)
    | (unfold wrap64; omega)
theorem step_rval {th : Bool} {v : Bs} {x : Lo} (hv : v.length ≤ maxLen) : (step th v x).2.2.val.length ≤ maxLen := by
  unfold step
  split
  · split
    · exact hv
    · simp
  split
  · simp
  split
  · simp
  split
  · split
    · split
      · simp
      · exact hv
    · simp
  · simp

set_option maxRecDepth 100000 in
set_option maxHeartbeats 4000000 in
theorem serial_walk (w : World) (a : Option Addr) (cap : Nat) (h : List Lo) (hA : HAt w.heap.size w a h) (hin : ∀ o ∈ h, InO o) (hl : h.length ≤ maxLen) (_hc1 : h.length ≤ cap) (_hc2 : cap ≤ maxLen) :
    Calls Try.prog 8 #[.slice a h.length cap] w fun e w' => e = .returned (.bool true) ∧ Below w.heap.size w w' := by
  have HF := first_any
  have HFW : Hid (∀ w1, Below w.heap.size w w1 → Calls Try.prog 10 #[.slice a h.length cap] w1 (FewR h w1)) := fun w1 hB => few_any w.heap.size w1 a cap h (hA.below hB) (fun o ho => (hin o ho).ok) hl
  have hl' := hl
  unfold maxLen at hl'
  have HN := num_any
  go_enter Try.func8, Try.ntmps8
  go_wp2_with (first
    | (go_at_call 9; refine (HF _).mono ?_; rintro e w1 ⟨rfl, hB1⟩)
    | fail)
  refine (HFW.out _ hB1).mono ?_
  rintro e w2 ⟨t, n2, rfl, ht, rfl⟩
  have hB2 : Below w.heap.size w (w1.drewN n2) := ⟨hB1.os, hB1.tape, hB1.output, hB1.size, hB1.block⟩
  generalize w1.drewN n2 = w2 at *
  cases t with
  | false =>
    go_wp2
    go_ret
    exact ⟨rfl, hB2⟩
  | true =>
    clear ht
    by_cases hg : 12 < h.length
    · have hg' : (12 : Int) < (h.length : Int) := by omega
      go_wp2
      go_ret
      exact ⟨rfl, hB2⟩
    have hg' : ¬ (12 : Int) < (h.length : Int) := by omega
    go_wp2
    go_loopw [9, 5, 6, 7, 8] (fun i hv tv vv rv wr => ∃ (k : Nat) (B : List Lo), i = .int .i64 k ∧ k ≤ h.length ∧ B.length = k ∧ OOw w.heap.size wr hv B ∧ tv = .bool (runS false [] B).1 ∧ vv = str (runS false [] B).2 ∧ rv = .bool (rightAll false [] B) ∧ Ser B ∧ (∀ o ∈ B, LoOk o) ∧ (runS false [] B).2.length ≤ maxLen ∧ Below w.heap.size w wr) (fun i _ _ _ _ _ => h.length - (intOf i).toNat)
    case atStart => exact ⟨0, [], rfl, by omega, rfl, World.ownsRow_nil _ _ _ _, rfl, rfl, rfl, fun i hi => by simp at hi, by simp, by simp [runS], hB2⟩
    case round =>
      obtain ⟨k, B, rfl, hk, hBk, hO, rfl, rfl, rfl, hSer, hBok, hvl, hB3⟩ := hrel
      have hz3 := hB3.size
      obtain ⟨ba, bc, hbs, -, -⟩ := row_shape hO
      subst hbs
      by_cases hlt : k < h.length
      · obtain ⟨b, off, rfl, hb, hcs⟩ := (hA.below hB3).at hlt
        have hOx := (hin _ (oat_mem hlt)).ok
        have hKI := (hin _ (oat_mem hlt)).kind
        have HZ := step_any (runS false [] B).1 (runS false [] B).2 (serZ k (oat h k))
        generalize hxe : oat h k = x at *
        obtain ⟨c0, c1, c2, c3, c4, c5, c6, c7, c8, c9⟩ := hcs
        have hk2 : IntKind.i64.wrap (2 * (k : Int)) = 2 * (k : Int) := by rw [IntKind.wrap_i64]; omega
        have hk3 : IntKind.i64.wrap (2 * (k : Int) + 1) = 2 * (k : Int) + 1 := by rw [IntKind.wrap_i64]; omega
        have hk4 : IntKind.i64.wrap (2 * (k : Int) + 2) = 2 * (k : Int) + 2 := by rw [IntKind.wrap_i64]; omega
        have hkb := kd_in x.kind
        have ew1 : wrap64 (x.kind.tmod 4 + 4) = x.kind.tmod 4 + 4 := by
          have h1 := Int.lt_tmod_of_pos x.kind (b := 4) (by omega)
          have h2 := Int.tmod_lt_of_pos x.kind (b := 4) (by omega)
          rw [wrap64_eq (by omega) (by omega)]
        have ew2 : wrap64 ((x.kind.tmod 4 + 4).tmod 4 + 1) = kd x.kind := by
          have h3 : (x.kind.tmod 4 + 4).tmod 4 + 1 = kd x.kind := rfl
          rw [h3, wrap64_eq (by omega) (by omega)]
        have hkk := kd_in x.kind
        have hcd := step_code (runS false [] B).1 (runS false [] B).2 (serZ k x) hkk
        have HSN : Hid (∀ r : Rp, (r.code = 1 ∨ r.code = 2 ∨ r.code = 3) → r.val.length ≤ maxLen → Ser (B ++ [{ serZ k x with rp := r }]) ∧ (∀ o ∈ B ++ [{ serZ k x with rp := r }], LoOk o) ∧ runS false [] (B ++ [{ serZ k x with rp := r }]) = ((step (runS false [] B).1 (runS false [] B).2 (serZ k x)).1, (step (runS false [] B).1 (runS false [] B).2 (serZ k x)).2.1) ∧ rightAll false [] (B ++ [{ serZ k x with rp := r }]) = (rightAll false [] B && decide (r = (step (runS false [] B).1 (runS false [] B).2 (serZ k x)).2.2))) := fun r hr hrv => by
          refine ⟨hSer.snoc ⟨rfl, by rw [hBk]; rfl, by rw [hBk]; rfl, hkk, hr⟩, fun o ho => ?_, runS_snoc B false [] _, rightAll_snoc B false [] _⟩
          rcases List.mem_append.1 ho with ho | ho
          · exact hBok o ho
          · cases List.mem_singleton.1 ho
            exact ⟨by show 1 ≤ maxLen; decide, hOx.val, hOx.old, hrv⟩
        have hvl2 : (step (runS false [] B).1 (runS false [] B).2 (serZ k x)).2.1.length ≤ maxLen := step_val hvl hOx.val
        have hrv2 : (step (runS false [] B).1 (runS false [] B).2 (serZ k x)).2.2.val.length ≤ maxLen := step_rval hvl
        have hxrv := hOx.rv
        have HO : Hid (OOw w.heap.size wr (.slice ba B.length bc) B) := hO
        generalize hst : step (runS false [] B).1 (runS false [] B).2 (serZ k x) = st at *
        obtain ⟨st1, st2, st3, st4⟩ := st
        dsimp only at hcd hvl2 hrv2
        unfold Lo.v serZ stV Rp.v at HZ
        unfold str at c3 c4 c5 c9 HZ ⊢
        dsimp only at HZ
        generalize hkx : kd x.kind = q at *
        have HKX : Hid (kd x.kind = q) := hkx
        have HHX : Hid (∀ r : Rp, ({ serZ k x with rp := r } : Lo).cells = #[.int .i64 x.cl, .int .i64 x.sq, .int .i64 q, .string ⟨#[107]⟩, .string ⟨x.val.toArray⟩, .string ⟨x.old.toArray⟩, .int .i64 (2 * (k : Int) + 1), .int .i64 (2 * (k : Int) + 2), .int .i64 r.code, .string ⟨r.val.toArray⟩]) := fun r => by
          unfold Lo.cells serZ str
          dsimp only
          rw [hkx]
        generalize hrr : runS false [] B = rr at *
        generalize hrb : rightAll false [] B = rb at *
        have hBl : B.length ≤ 12 := by omega
        have HBK : Hid (B.length = k) := hBk
        clear hBk hSer hBok hO hst hkx hrr hrb hkb hkk hOx hKI hvl
        go_wp2_with fail
        refine (HZ _).mono ?_
        rintro e w4 ⟨rfl, hB4⟩
        have hh4 := (hB4.block wr.heap.size (by simp)).trans (heap_alloc_new wr _)
        obtain ⟨⟨d0, d1, d2, d3, d4, d5, d6, d7, d8, d9⟩, df⟩ := cells10 hh4
        have hz4 : wr.heap.size < w4.heap.size := by have := hB4.size; simp at this; omega
        obtain ⟨qa1, qa2, qa3⟩ := past2 hz4
        have qa4 : ∀ (o : Obj) (j : Nat), (w4.alloc o).frozen? ⟨wr.heap.size, j, none⟩ = false := fun o j => (((Below.refl _ w4).alloc (Nat.le_refl _) o).frozen (p := ⟨wr.heap.size, j, none⟩) hz4).trans (df j)
        have HBW : Hid (Below wr.heap.size wr w4) := ((Below.refl _ wr).alloc (Nat.le_refl _) _).trans (hB4.mono (by simp))
        have HH4 : Hid (w4.heap[wr.heap.size]? = _) := hh4
        clear hB4 hh4
        by_cases hcode : x.rp.code = 1 ∨ x.rp.code = 2 ∨ x.rp.code = 3
        · have HCD : Hid (x.rp.code = 1 ∨ x.rp.code = 2 ∨ x.rp.code = 3) := hcode
          have hcc : ((x.rp.code != 1) = false) ∨ ((x.rp.code != 1) = true ∧ (x.rp.code != 2) = false) ∨ ((x.rp.code != 1) = true ∧ (x.rp.code != 2) = true ∧ (x.rp.code != 3) = false) := by
            rcases hcode with e | e | e <;> simp [e]
          clear hcode
          rcases hcc with f1 | ⟨f1, f2⟩ | ⟨f1, f2, f3⟩
          · cases rb with
            | false =>
              go_wp2_with (first
                | (at_builtin; refine wpList_app tyO rfl _ _ rfl w.heap.size _ B.length _ ⟨w4.heap.size + 1, 0, none⟩ 1 1 ({ serZ k x with rp := x.rp } : Lo).cells.toList rfl (World.ownsRow.alloc (World.ownsRow.alloc (row_below HO.out HBW.out) _) _) rfl rfl (by rw [HHX.out]; exact news10 _ _ (by simp) _) (lo_one _) (by omega) (by simp; omega) ?_; intro v5 w5 p1 p2 p3; obtain ⟨s5, c5', hv5, -, -⟩ := row_shape p1; subst hv5))
              obtain ⟨y1, y2, y3, y4⟩ := HSN.out x.rp HCD.out hxrv
              have hB5 : Below w.heap.size w w5 := ((((hB3.trans (HBW.out.mono hz3)).alloc (by omega) _)).alloc (by simp; omega) _).grown p2 (by simp; omega) (fun g hg => (World.ownsRow.lt HO.out g hg).1)
              exact ⟨⟨k + 1, B ++ [{ serZ k x with rp := x.rp }], by go_num, by omega, by simp [HBK.out], OOw.snoc p1, by (rw [y3]; try rfl), by (rw [y3]; try rfl), by (rw [y4]; try (simp)), y1, y2, by rw [y3]; exact hvl2, hB5⟩, by simp [intOf]; omega⟩
            | true =>
              by_cases hre : x.rp.code = st3
              · rw [hre] at d8 HCD f1
                by_cases hrv : x.rp.val = st4
                · rw [hrv] at d9
                  go_wp2_with (first
                    | (at_builtin; refine wpList_app tyO rfl _ _ rfl w.heap.size _ B.length _ ⟨w4.heap.size + 1, 0, none⟩ 1 1 ({ serZ k x with rp := ⟨st3, st4⟩ } : Lo).cells.toList rfl (World.ownsRow.alloc (World.ownsRow.alloc (row_below HO.out HBW.out) _) _) rfl rfl (by rw [HHX.out]; exact news10 _ _ (by simp) _) (lo_one _) (by omega) (by simp; omega) ?_; intro v5 w5 p1 p2 p3; obtain ⟨s5, c5', hv5, -, -⟩ := row_shape p1; subst hv5))
                  obtain ⟨y1, y2, y3, y4⟩ := HSN.out ⟨st3, st4⟩ hcd hrv2
                  have hB5 : Below w.heap.size w w5 := ((((hB3.trans (HBW.out.mono hz3)).alloc (by omega) _)).alloc (by simp; omega) _).grown p2 (by simp; omega) (fun g hg => (World.ownsRow.lt HO.out g hg).1)
                  exact ⟨⟨k + 1, B ++ [{ serZ k x with rp := ⟨st3, st4⟩ }], by go_num, by omega, by simp [HBK.out], OOw.snoc p1, by (rw [y3]; try rfl), by (rw [y3]; try rfl), by (rw [y4]; try (simp)), y1, y2, by rw [y3]; exact hvl2, hB5⟩, by simp [intOf]; omega⟩
                · have HRE : Hid (¬ x.rp.val = st4) := hrv
                  have hrb : (x.rp.val == st4) = false := by simpa using hrv
                  clear hrv hre
                  go_wp2_with (first
                    | (at_builtin; refine wpList_app tyO rfl _ _ rfl w.heap.size _ B.length _ ⟨w4.heap.size + 1, 0, none⟩ 1 1 ({ serZ k x with rp := ⟨st3, x.rp.val⟩ } : Lo).cells.toList rfl (World.ownsRow.alloc (World.ownsRow.alloc (row_below HO.out HBW.out) _) _) rfl rfl (by rw [HHX.out]; exact news10 _ _ (by simp) _) (lo_one _) (by omega) (by simp; omega) ?_; intro v5 w5 p1 p2 p3; obtain ⟨s5, c5', hv5, -, -⟩ := row_shape p1; subst hv5))
                  obtain ⟨y1, y2, y3, y4⟩ := HSN.out ⟨st3, x.rp.val⟩ HCD.out hxrv
                  have hB5 : Below w.heap.size w w5 := ((((hB3.trans (HBW.out.mono hz3)).alloc (by omega) _)).alloc (by simp; omega) _).grown p2 (by simp; omega) (fun g hg => (World.ownsRow.lt HO.out g hg).1)
                  exact ⟨⟨k + 1, B ++ [{ serZ k x with rp := ⟨st3, x.rp.val⟩ }], by go_num, by omega, by simp [HBK.out], OOw.snoc p1, by (rw [y3]; try rfl), by (rw [y3]; try rfl), by (rw [y4]; try (simp [HRE.out])), y1, y2, by rw [y3]; exact hvl2, hB5⟩, by simp [intOf]; omega⟩
              · have HRE : Hid (¬ x.rp = ⟨st3, st4⟩) := fun e => hre (by rw [e])
                have hrb : (x.rp.code == st3) = false := by simpa using hre
                clear hre
                go_wp2_with (first
                  | (at_builtin; refine wpList_app tyO rfl _ _ rfl w.heap.size _ B.length _ ⟨w4.heap.size + 1, 0, none⟩ 1 1 ({ serZ k x with rp := x.rp } : Lo).cells.toList rfl (World.ownsRow.alloc (World.ownsRow.alloc (row_below HO.out HBW.out) _) _) rfl rfl (by rw [HHX.out]; exact news10 _ _ (by simp) _) (lo_one _) (by omega) (by simp; omega) ?_; intro v5 w5 p1 p2 p3; obtain ⟨s5, c5', hv5, -, -⟩ := row_shape p1; subst hv5))
                obtain ⟨y1, y2, y3, y4⟩ := HSN.out x.rp HCD.out hxrv
                have hB5 : Below w.heap.size w w5 := ((((hB3.trans (HBW.out.mono hz3)).alloc (by omega) _)).alloc (by simp; omega) _).grown p2 (by simp; omega) (fun g hg => (World.ownsRow.lt HO.out g hg).1)
                exact ⟨⟨k + 1, B ++ [{ serZ k x with rp := x.rp }], by go_num, by omega, by simp [HBK.out], OOw.snoc p1, by (rw [y3]; try rfl), by (rw [y3]; try rfl), by (rw [y4]; try (simp [HRE.out])), y1, y2, by rw [y3]; exact hvl2, hB5⟩, by simp [intOf]; omega⟩
          · cases rb with
            | false =>
              go_wp2_with (first
                | (at_builtin; refine wpList_app tyO rfl _ _ rfl w.heap.size _ B.length _ ⟨w4.heap.size + 1, 0, none⟩ 1 1 ({ serZ k x with rp := x.rp } : Lo).cells.toList rfl (World.ownsRow.alloc (World.ownsRow.alloc (row_below HO.out HBW.out) _) _) rfl rfl (by rw [HHX.out]; exact news10 _ _ (by simp) _) (lo_one _) (by omega) (by simp; omega) ?_; intro v5 w5 p1 p2 p3; obtain ⟨s5, c5', hv5, -, -⟩ := row_shape p1; subst hv5))
              obtain ⟨y1, y2, y3, y4⟩ := HSN.out x.rp HCD.out hxrv
              have hB5 : Below w.heap.size w w5 := ((((hB3.trans (HBW.out.mono hz3)).alloc (by omega) _)).alloc (by simp; omega) _).grown p2 (by simp; omega) (fun g hg => (World.ownsRow.lt HO.out g hg).1)
              exact ⟨⟨k + 1, B ++ [{ serZ k x with rp := x.rp }], by go_num, by omega, by simp [HBK.out], OOw.snoc p1, by (rw [y3]; try rfl), by (rw [y3]; try rfl), by (rw [y4]; try (simp)), y1, y2, by rw [y3]; exact hvl2, hB5⟩, by simp [intOf]; omega⟩
            | true =>
              by_cases hre : x.rp.code = st3
              · rw [hre] at d8 HCD f1 f2
                by_cases hrv : x.rp.val = st4
                · rw [hrv] at d9
                  go_wp2_with (first
                    | (at_builtin; refine wpList_app tyO rfl _ _ rfl w.heap.size _ B.length _ ⟨w4.heap.size + 1, 0, none⟩ 1 1 ({ serZ k x with rp := ⟨st3, st4⟩ } : Lo).cells.toList rfl (World.ownsRow.alloc (World.ownsRow.alloc (row_below HO.out HBW.out) _) _) rfl rfl (by rw [HHX.out]; exact news10 _ _ (by simp) _) (lo_one _) (by omega) (by simp; omega) ?_; intro v5 w5 p1 p2 p3; obtain ⟨s5, c5', hv5, -, -⟩ := row_shape p1; subst hv5))
                  obtain ⟨y1, y2, y3, y4⟩ := HSN.out ⟨st3, st4⟩ hcd hrv2
                  have hB5 : Below w.heap.size w w5 := ((((hB3.trans (HBW.out.mono hz3)).alloc (by omega) _)).alloc (by simp; omega) _).grown p2 (by simp; omega) (fun g hg => (World.ownsRow.lt HO.out g hg).1)
                  exact ⟨⟨k + 1, B ++ [{ serZ k x with rp := ⟨st3, st4⟩ }], by go_num, by omega, by simp [HBK.out], OOw.snoc p1, by (rw [y3]; try rfl), by (rw [y3]; try rfl), by (rw [y4]; try (simp)), y1, y2, by rw [y3]; exact hvl2, hB5⟩, by simp [intOf]; omega⟩
                · have HRE : Hid (¬ x.rp.val = st4) := hrv
                  have hrb : (x.rp.val == st4) = false := by simpa using hrv
                  clear hrv hre
                  go_wp2_with (first
                    | (at_builtin; refine wpList_app tyO rfl _ _ rfl w.heap.size _ B.length _ ⟨w4.heap.size + 1, 0, none⟩ 1 1 ({ serZ k x with rp := ⟨st3, x.rp.val⟩ } : Lo).cells.toList rfl (World.ownsRow.alloc (World.ownsRow.alloc (row_below HO.out HBW.out) _) _) rfl rfl (by rw [HHX.out]; exact news10 _ _ (by simp) _) (lo_one _) (by omega) (by simp; omega) ?_; intro v5 w5 p1 p2 p3; obtain ⟨s5, c5', hv5, -, -⟩ := row_shape p1; subst hv5))
                  obtain ⟨y1, y2, y3, y4⟩ := HSN.out ⟨st3, x.rp.val⟩ HCD.out hxrv
                  have hB5 : Below w.heap.size w w5 := ((((hB3.trans (HBW.out.mono hz3)).alloc (by omega) _)).alloc (by simp; omega) _).grown p2 (by simp; omega) (fun g hg => (World.ownsRow.lt HO.out g hg).1)
                  exact ⟨⟨k + 1, B ++ [{ serZ k x with rp := ⟨st3, x.rp.val⟩ }], by go_num, by omega, by simp [HBK.out], OOw.snoc p1, by (rw [y3]; try rfl), by (rw [y3]; try rfl), by (rw [y4]; try (simp [HRE.out])), y1, y2, by rw [y3]; exact hvl2, hB5⟩, by simp [intOf]; omega⟩
              · have HRE : Hid (¬ x.rp = ⟨st3, st4⟩) := fun e => hre (by rw [e])
                have hrb : (x.rp.code == st3) = false := by simpa using hre
                clear hre
                go_wp2_with (first
                  | (at_builtin; refine wpList_app tyO rfl _ _ rfl w.heap.size _ B.length _ ⟨w4.heap.size + 1, 0, none⟩ 1 1 ({ serZ k x with rp := x.rp } : Lo).cells.toList rfl (World.ownsRow.alloc (World.ownsRow.alloc (row_below HO.out HBW.out) _) _) rfl rfl (by rw [HHX.out]; exact news10 _ _ (by simp) _) (lo_one _) (by omega) (by simp; omega) ?_; intro v5 w5 p1 p2 p3; obtain ⟨s5, c5', hv5, -, -⟩ := row_shape p1; subst hv5))
                obtain ⟨y1, y2, y3, y4⟩ := HSN.out x.rp HCD.out hxrv
                have hB5 : Below w.heap.size w w5 := ((((hB3.trans (HBW.out.mono hz3)).alloc (by omega) _)).alloc (by simp; omega) _).grown p2 (by simp; omega) (fun g hg => (World.ownsRow.lt HO.out g hg).1)
                exact ⟨⟨k + 1, B ++ [{ serZ k x with rp := x.rp }], by go_num, by omega, by simp [HBK.out], OOw.snoc p1, by (rw [y3]; try rfl), by (rw [y3]; try rfl), by (rw [y4]; try (simp [HRE.out])), y1, y2, by rw [y3]; exact hvl2, hB5⟩, by simp [intOf]; omega⟩
          · cases rb with
            | false =>
              go_wp2_with (first
                | (at_builtin; refine wpList_app tyO rfl _ _ rfl w.heap.size _ B.length _ ⟨w4.heap.size + 1, 0, none⟩ 1 1 ({ serZ k x with rp := x.rp } : Lo).cells.toList rfl (World.ownsRow.alloc (World.ownsRow.alloc (row_below HO.out HBW.out) _) _) rfl rfl (by rw [HHX.out]; exact news10 _ _ (by simp) _) (lo_one _) (by omega) (by simp; omega) ?_; intro v5 w5 p1 p2 p3; obtain ⟨s5, c5', hv5, -, -⟩ := row_shape p1; subst hv5))
              obtain ⟨y1, y2, y3, y4⟩ := HSN.out x.rp HCD.out hxrv
              have hB5 : Below w.heap.size w w5 := ((((hB3.trans (HBW.out.mono hz3)).alloc (by omega) _)).alloc (by simp; omega) _).grown p2 (by simp; omega) (fun g hg => (World.ownsRow.lt HO.out g hg).1)
              exact ⟨⟨k + 1, B ++ [{ serZ k x with rp := x.rp }], by go_num, by omega, by simp [HBK.out], OOw.snoc p1, by (rw [y3]; try rfl), by (rw [y3]; try rfl), by (rw [y4]; try (simp)), y1, y2, by rw [y3]; exact hvl2, hB5⟩, by simp [intOf]; omega⟩
            | true =>
              by_cases hre : x.rp.code = st3
              · rw [hre] at d8 HCD f1 f2 f3
                by_cases hrv : x.rp.val = st4
                · rw [hrv] at d9
                  go_wp2_with (first
                    | (at_builtin; refine wpList_app tyO rfl _ _ rfl w.heap.size _ B.length _ ⟨w4.heap.size + 1, 0, none⟩ 1 1 ({ serZ k x with rp := ⟨st3, st4⟩ } : Lo).cells.toList rfl (World.ownsRow.alloc (World.ownsRow.alloc (row_below HO.out HBW.out) _) _) rfl rfl (by rw [HHX.out]; exact news10 _ _ (by simp) _) (lo_one _) (by omega) (by simp; omega) ?_; intro v5 w5 p1 p2 p3; obtain ⟨s5, c5', hv5, -, -⟩ := row_shape p1; subst hv5))
                  obtain ⟨y1, y2, y3, y4⟩ := HSN.out ⟨st3, st4⟩ hcd hrv2
                  have hB5 : Below w.heap.size w w5 := ((((hB3.trans (HBW.out.mono hz3)).alloc (by omega) _)).alloc (by simp; omega) _).grown p2 (by simp; omega) (fun g hg => (World.ownsRow.lt HO.out g hg).1)
                  exact ⟨⟨k + 1, B ++ [{ serZ k x with rp := ⟨st3, st4⟩ }], by go_num, by omega, by simp [HBK.out], OOw.snoc p1, by (rw [y3]; try rfl), by (rw [y3]; try rfl), by (rw [y4]; try (simp)), y1, y2, by rw [y3]; exact hvl2, hB5⟩, by simp [intOf]; omega⟩
                · have HRE : Hid (¬ x.rp.val = st4) := hrv
                  have hrb : (x.rp.val == st4) = false := by simpa using hrv
                  clear hrv hre
                  go_wp2_with (first
                    | (at_builtin; refine wpList_app tyO rfl _ _ rfl w.heap.size _ B.length _ ⟨w4.heap.size + 1, 0, none⟩ 1 1 ({ serZ k x with rp := ⟨st3, x.rp.val⟩ } : Lo).cells.toList rfl (World.ownsRow.alloc (World.ownsRow.alloc (row_below HO.out HBW.out) _) _) rfl rfl (by rw [HHX.out]; exact news10 _ _ (by simp) _) (lo_one _) (by omega) (by simp; omega) ?_; intro v5 w5 p1 p2 p3; obtain ⟨s5, c5', hv5, -, -⟩ := row_shape p1; subst hv5))
                  obtain ⟨y1, y2, y3, y4⟩ := HSN.out ⟨st3, x.rp.val⟩ HCD.out hxrv
                  have hB5 : Below w.heap.size w w5 := ((((hB3.trans (HBW.out.mono hz3)).alloc (by omega) _)).alloc (by simp; omega) _).grown p2 (by simp; omega) (fun g hg => (World.ownsRow.lt HO.out g hg).1)
                  exact ⟨⟨k + 1, B ++ [{ serZ k x with rp := ⟨st3, x.rp.val⟩ }], by go_num, by omega, by simp [HBK.out], OOw.snoc p1, by (rw [y3]; try rfl), by (rw [y3]; try rfl), by (rw [y4]; try (simp [HRE.out])), y1, y2, by rw [y3]; exact hvl2, hB5⟩, by simp [intOf]; omega⟩
              · have HRE : Hid (¬ x.rp = ⟨st3, st4⟩) := fun e => hre (by rw [e])
                have hrb : (x.rp.code == st3) = false := by simpa using hre
                clear hre
                go_wp2_with (first
                  | (at_builtin; refine wpList_app tyO rfl _ _ rfl w.heap.size _ B.length _ ⟨w4.heap.size + 1, 0, none⟩ 1 1 ({ serZ k x with rp := x.rp } : Lo).cells.toList rfl (World.ownsRow.alloc (World.ownsRow.alloc (row_below HO.out HBW.out) _) _) rfl rfl (by rw [HHX.out]; exact news10 _ _ (by simp) _) (lo_one _) (by omega) (by simp; omega) ?_; intro v5 w5 p1 p2 p3; obtain ⟨s5, c5', hv5, -, -⟩ := row_shape p1; subst hv5))
                obtain ⟨y1, y2, y3, y4⟩ := HSN.out x.rp HCD.out hxrv
                have hB5 : Below w.heap.size w w5 := ((((hB3.trans (HBW.out.mono hz3)).alloc (by omega) _)).alloc (by simp; omega) _).grown p2 (by simp; omega) (fun g hg => (World.ownsRow.lt HO.out g hg).1)
                exact ⟨⟨k + 1, B ++ [{ serZ k x with rp := x.rp }], by go_num, by omega, by simp [HBK.out], OOw.snoc p1, by (rw [y3]; try rfl), by (rw [y3]; try rfl), by (rw [y4]; try (simp [HRE.out])), y1, y2, by rw [y3]; exact hvl2, hB5⟩, by simp [intOf]; omega⟩
        · have f1 : (x.rp.code != 1) = true := by simp; omega
          have f2 : (x.rp.code != 2) = true := by simp; omega
          have f3 : (x.rp.code != 3) = true := by simp; omega
          clear hcode
          cases rb with
          | false =>
            go_wp2_with (first
              | (at_builtin; refine wpList_app tyO rfl _ _ rfl w.heap.size _ B.length _ ⟨w4.heap.size + 1, 0, none⟩ 1 1 ({ serZ k x with rp := ⟨st3, st4⟩ } : Lo).cells.toList rfl (World.ownsRow.alloc (World.ownsRow.alloc (row_out (X := fun i => i = wr.heap.size) (row_below HO.out HBW.out) ((Out.put (X := fun i => i = wr.heap.size) (b := wr.heap.size) (o := 8) (Out.refl _ w4) rfl).put (b := wr.heap.size) (o := 9) rfl) (fun g hg e => by have := (World.ownsRow.lt HO.out g hg).2; omega)) _) _) rfl rfl (by rw [HHX.out]; exact news10 _ _ (by simp [World.setCell]) _) (lo_one _) (by omega) (by simp [World.setCell]; omega) ?_; intro v5 w5 p1 p2 p3; obtain ⟨s5, c5', hv5, -, -⟩ := row_shape p1; subst hv5))
            obtain ⟨y1, y2, y3, y4⟩ := HSN.out ⟨st3, st4⟩ hcd hrv2
            have hB5 : Below w.heap.size w w5 := ((((((hB3.trans (HBW.out.mono hz3)).setCell (p := ⟨wr.heap.size, 8, none⟩) hz3 _).setCell (p := ⟨wr.heap.size, 9, none⟩) hz3 _).alloc (by simp [World.setCell]; omega) _)).alloc (by simp [World.setCell]; omega) _).grown p2 (by simp [World.setCell]; omega) (fun g hg => (World.ownsRow.lt HO.out g hg).1)
            exact ⟨⟨k + 1, B ++ [{ serZ k x with rp := ⟨st3, st4⟩ }], by go_num, by omega, by simp [HBK.out], OOw.snoc p1, by (rw [y3]; try rfl), by (rw [y3]; try rfl), by (rw [y4]; try (rw [Bool.false_and])), y1, y2, by rw [y3]; exact hvl2, hB5⟩, by simp [intOf]; omega⟩
          | true =>
            go_wp2_with (first
              | (at_builtin; refine wpList_app tyO rfl _ _ rfl w.heap.size _ B.length _ ⟨w4.heap.size + 1, 0, none⟩ 1 1 ({ serZ k x with rp := ⟨st3, st4⟩ } : Lo).cells.toList rfl (World.ownsRow.alloc (World.ownsRow.alloc (row_out (X := fun i => i = wr.heap.size) (row_below HO.out HBW.out) ((Out.put (X := fun i => i = wr.heap.size) (b := wr.heap.size) (o := 8) (Out.refl _ w4) rfl).put (b := wr.heap.size) (o := 9) rfl) (fun g hg e => by have := (World.ownsRow.lt HO.out g hg).2; omega)) _) _) rfl rfl (by rw [HHX.out]; exact news10 _ _ (by simp [World.setCell]) _) (lo_one _) (by omega) (by simp [World.setCell]; omega) ?_; intro v5 w5 p1 p2 p3; obtain ⟨s5, c5', hv5, -, -⟩ := row_shape p1; subst hv5))
            obtain ⟨y1, y2, y3, y4⟩ := HSN.out ⟨st3, st4⟩ hcd hrv2
            have hB5 : Below w.heap.size w w5 := ((((((hB3.trans (HBW.out.mono hz3)).setCell (p := ⟨wr.heap.size, 8, none⟩) hz3 _).setCell (p := ⟨wr.heap.size, 9, none⟩) hz3 _).alloc (by simp [World.setCell]; omega) _)).alloc (by simp [World.setCell]; omega) _).grown p2 (by simp [World.setCell]; omega) (fun g hg => (World.ownsRow.lt HO.out g hg).1)
            exact ⟨⟨k + 1, B ++ [{ serZ k x with rp := ⟨st3, st4⟩ }], by go_num, by omega, by simp [HBK.out], OOw.snoc p1, by (rw [y3]; try rfl), by (rw [y3]; try rfl), by (rw [y4]; try (simp)), y1, y2, by rw [y3]; exact hvl2, hB5⟩, by simp [intOf]; omega⟩
      · have : k = h.length := by omega
        subst this
        have HCH := check_any wr.heap.size wr ba bc B (Nat.le_refl _) (OOw.hat hO (Nat.le_refl _)) hBok (by omega)
        rw [hSer.valid (by omega), hSer.check (by omega)] at HCH
        clear hSer hBok hO
        generalize rightAll false [] B = rb at *
        rw [hBk] at *
        unfold str
        go_wp2_with (first
          | (go_at_call 12; refine HCH.mono ?_; rintro e w4 ⟨rfl, hB4⟩)
          | (go_at_call 19; refine (HN _ _).mono ?_; rintro e w5 ⟨rfl, rfl⟩))
        all_goals go_ret
        all_goals exact ⟨by cases rb <;> rfl, hB3.trans (hB4.mono hz3)⟩
end Go.Proofs.Ytbcnpdpdflkanaa
