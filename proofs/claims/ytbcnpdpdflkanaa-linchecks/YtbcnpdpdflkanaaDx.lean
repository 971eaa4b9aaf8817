/-
  The document's Explain.
-/
import Derived.Test.YtbcnpdpdflkanaaDr
import Derived.Test.YtbcnpdpdflkanaaDv
namespace Go.Proofs.Ytbcnpdpdflkanaa
open Go.RowKit

/-- A search of the document that is being made. -/
structure Mk (N : Nat) (h : List Lo) (key : Bs) (a : Option Addr) (cap k : Nat) (w : World) (oa : Option Addr) (oc : Nat) (wr : World) : Prop where
  blk : wr.heap[w.heap.size + 1]? = some (.cells #[.slice a h.length cap, .slice oa (pre h key k).length oc, .map (some w.heap.size)] 61 (0, 0))
  row : wr.ownsRow (w.heap.size + 2) 3 1 (.slice oa (pre h key k).length oc) (pre h key k).length ((pre h key k).map encI)
  mp : wr.ownsMap Try.prog 64 (plainElem Try.prog 3) w.heap.size 0 (.map [] : DataW Unit)
  bel : Below w.heap.size w wr
theorem Mk.below {N : Nat} {h : List Lo} {key : Bs} {a : Option Addr} {cap k : Nat} {w : World} {oa : Option Addr} {oc : Nat} {wr wr' : World} (hM : Mk N h key a cap k w oa oc wr) (hB : Below wr.heap.size wr wr') : Mk N h key a cap k w oa oc wr' :=
  ⟨(hB.block _ (Array.getElem?_eq_some_iff.1 hM.blk).1).trans hM.blk, row_below hM.row hB, mapOut (X := fun _ => False) hM.mp (Out.of_below hB) id, hM.bel.trans (hB.mono hM.bel.size)⟩
theorem Mk.push {N : Nat} {h : List Lo} {key : Bs} {a : Option Addr} {cap k : Nat} {w : World} {oa oa' : Option Addr} {oc oc' : Nat} {wr w5 : World} (hM : Mk N h key a cap k w oa oc wr) (hm : mine h key k = true)
    (hr : w5.ownsRow (w.heap.size + 2) 3 1 (.slice oa' ((pre h key k).length + 1) oc') ((pre h key k).length + 1) ((pre h key k).map encI ++ [encI k])) (hg : wr.grownBy w5 (Value.slice oa (pre h key k).length oc).ownBlock) :
    Mk N h key a cap (k + 1) w oa' oc' (w5.setCell ⟨w.heap.size + 1, 1, none⟩ (.slice oa' ((pre h key k).length + 1) oc')) := by
  have hs1 := pre_succ h key k
  rw [hm, if_pos rfl] at hs1
  have hl1 : (pre h key (k + 1)).length = (pre h key k).length + 1 := by rw [hs1]; simp
  have nb : ∀ b, b < w.heap.size + 2 → (Value.slice oa (pre h key k).length oc).ownBlock ≠ some b := fun b hb e => by have := (hM.row.lt b e).1; omega
  have hO : Out (fun i => (Value.slice oa (pre h key k).length oc).ownBlock = some i) wr w5 := Out.grown hg (fun j e => e)
  have hb5 : w5.heap[w.heap.size + 1]? = some (.cells #[.slice a h.length cap, .slice oa (pre h key k).length oc, .map (some w.heap.size)] 61 (0, 0)) := (hO.block _ (Array.getElem?_eq_some_iff.1 hM.blk).1 (nb _ (by omega))).trans hM.blk
  have hz := (Array.getElem?_eq_some_iff.1 hM.blk).1
  refine ⟨?_, ?_, ?_, ?_⟩
  · rw [heap_set hb5, hl1]; rfl
  · rw [hl1]
    have h2 : w5.ownsRow (w.heap.size + 2) 3 1 (.slice oa' ((pre h key k).length + 1) oc') ((pre h key k).length + 1) ((pre h key (k + 1)).map encI) := by rw [hs1, List.map_append]; exact hr
    exact row_out (X := fun i => i = w.heap.size + 1) h2 (Out.set rfl) (fun g hg' e => by have := (h2.lt g hg').1; omega)
  · exact mapOut (X := fun i => i = w.heap.size + 1) (mapOut hM.mp hO (nb _ (by omega))) (Out.set rfl) (by omega)
  · have h3 : Below w.heap.size w w5 := hM.bel.grown hg (hM.bel.size) (fun g e => by have := (hM.row.lt g e).1; omega)
    exact h3.setCell (p := ⟨w.heap.size + 1, 1, none⟩) (by show w.heap.size ≤ w.heap.size + 1; omega) _
theorem Mk.skip {N : Nat} {h : List Lo} {key : Bs} {a : Option Addr} {cap k : Nat} {w : World} {oa : Option Addr} {oc : Nat} {wr : World} (hM : Mk N h key a cap k w oa oc wr) (hm : mine h key k = false) : Mk N h key a cap (k + 1) w oa oc wr := by
  have hs1 := pre_succ h key k
  rw [hm, if_neg (by simp)] at hs1
  exact ⟨by rw [hs1]; exact hM.blk, by rw [hs1]; exact hM.row, hM.mp, hM.bel⟩
theorem mk_cell {N : Nat} {h : List Lo} {key : Bs} {a : Option Addr} {cap k : Nat} {w : World} {oa : Option Addr} {oc : Nat} {wr w5 : World} (hM : Mk N h key a cap k w oa oc wr) (hg : wr.grownBy w5 (Value.slice oa (pre h key k).length oc).ownBlock) :
    w5.cell? ⟨w.heap.size + 1, 1, none⟩ = some (.slice oa (pre h key k).length oc) ∧ w5.frozen? ⟨w.heap.size + 1, 1, none⟩ = false := by
  have hO : Out (fun i => (Value.slice oa (pre h key k).length oc).ownBlock = some i) wr w5 := Out.grown hg (fun j e => e)
  have hb5 : w5.heap[w.heap.size + 1]? = some (.cells #[.slice a h.length cap, .slice oa (pre h key k).length oc, .map (some w.heap.size)] 61 (0, 0)) := (hO.block _ (Array.getElem?_eq_some_iff.1 hM.blk).1 (fun e => by have := (hM.row.lt _ e).1; omega)).trans hM.blk
  obtain ⟨⟨-, c1, -⟩, cf⟩ := cells3 hb5
  exact ⟨c1, cf 1⟩
theorem pre_all (h : List Lo) (key : Bs) : pre h key h.length = nums h key := rfl
theorem Mk.sq {N : Nat} {h : List Lo} {key : Bs} {a : Option Addr} {cap : Nat} {w : World} {oa : Option Addr} {oc : Nat} {wr : World} (hM : Mk N h key a cap h.length w oa oc wr) (hN : N ≤ w.heap.size) (hA : HAt N w a h) :
    Sq ⟨N, w.heap.size + 2, w.heap.size + 1, w.heap.size, a, cap, oa, oc⟩ h (nums h key) wr := by
  obtain ⟨⟨c0, c1, c2⟩, -⟩ := cells3 hM.blk
  have hz := (Array.getElem?_eq_some_iff.1 hM.blk).1
  rw [pre_all] at c1
  have hr := hM.row
  rw [pre_all] at hr
  exact ⟨c0, c1, c2, hA.below (hM.bel.mono hN), hr, nums_lt, by dsimp only; omega, hN, fun e => by have := (hr.lt _ e).1; dsimp only at this; omega, hz, Nat.le_trans hN hM.bel.size⟩

set_option maxRecDepth 100000 in
set_option maxHeartbeats 4000000 in
theorem refExplain_any (N : Nat) (w : World) (a : Option Addr) (cap : Nat) (h : List Lo) (key : Bs) (hN : N ≤ w.heap.size) (hA : HAt N w a h) (hok : ∀ x ∈ h, LoOk x) (hl : h.length ≤ 1000) (hc : (nums h key).length ≤ 12) :
    Calls Try.prog 22 #[.slice a h.length cap, str key] w fun e w' => ∃ v, e = .returned (.tuple #[v, .bool (explain h key).isSome]) ∧ IOw w.heap.size w' v ((explain h key).getD []) ∧ Below w.heap.size w w' := by
  have hmm := @run_makeMap Try.prog
  have hval : ∀ j, (nops h (nums h key) j).val.length ≤ maxLen := fun j => by
    unfold nops oat
    cases hg : h[(nums h key).getD j 0]? with
    | none => simp [lo0]
    | some x => exact (hok x (List.mem_of_getElem? hg)).val
  have hkl : key.length ≤ key.length := Nat.le_refl _
  have HM0 : Hid (Mk N h key a cap 0 w none 0 ((w.alloc (.map #[] 0)).alloc (.cells #[.slice a h.length cap, .slice none 0 0, .map (some w.heap.size)] 61))) := by
    refine ⟨?_, World.ownsRow_nil _ _ _ _, (World.ownsMap_made (H := Unit) w Try.prog 64 (plainElem Try.prog 3)).alloc _, ((Below.refl _ w).alloc (Nat.le_refl _) _).alloc (by simp) _⟩
    have := heap_alloc_new (w.alloc (.map #[] 0)) (.cells #[.slice a h.length cap, .slice none 0 0, .map (some w.heap.size)] 61)
    rw [World.size_alloc] at this
    exact this
  unfold str
  go_enter Try.func22, Try.ntmps22
  go_wp2
  go_loopw [7] (fun i wr => ∃ (k : Nat) (oa : Option Addr) (oc : Nat), i = .int .i64 k ∧ k ≤ h.length ∧ Mk N h key a cap k w oa oc wr) (fun i _ => h.length - (intOf i).toNat)
  case atStart => exact ⟨0, none, 0, rfl, by omega, HM0.out⟩
  case round =>
    obtain ⟨k, oa, oc, rfl, hk, hM⟩ := hrel
    have hz := hM.bel.size
    have hsz := (Array.getElem?_eq_some_iff.1 hM.blk).1
    by_cases hlt : k < h.length
    · obtain ⟨b, off, rfl, hb, hcs⟩ := (hA.below (hM.bel.mono hN)).at hlt
      have HX := refCounts_any (oat h k)
      have hpl := pre_le h key (k := k) (by omega)
      have HMI : Hid (mine h key k = (decide ((oat h k).key = key) && (oat h k).counts)) := rfl
      generalize oat h k = x at *
      obtain ⟨c0, c1, c2, c3, c4, c5, c6, c7, c8, c9⟩ := hcs
      have q1 := past1 (w1 := wr) (b := b) (by omega)
      have HMR : Hid (Mk N h key (some ⟨b, off, none⟩) cap k w oa oc wr) := hM
      unfold Lo.v Lo.box Lo.cells at HX
      unfold str at HX c3 c4 c5 c9
      obtain ⟨⟨s0, s1, s2⟩, sf⟩ := cells3 hM.blk
      have q2 := past2 (w1 := wr) (b := w.heap.size + 1) hsz
      obtain ⟨q2, q3, -⟩ := q2
      clear hM HM0
      by_cases hx : x.counts = true
      · rw [hx] at HX
        by_cases hky : x.key = key
        · have HMN : Hid (mine h key k = true) := by show _ = _; rw [HMI.out, hx]; simp [hky]
          have hkb : (x.key == key) = true := by simpa using hky
          clear hx hky
          go_wp2_with (first
            | (go_at_call 17; refine (HX _).mono ?_; rintro e w4 ⟨rfl, rfl⟩)
            | (at_builtin; refine wpList_app tyI rfl _ _ rfl (w.heap.size + 2) _ (pre h key k).length ((pre h key k).map encI) ⟨wr.heap.size + 1, 0, none⟩ 1 1 [encI k] rfl (World.ownsRow.alloc (World.ownsRow.alloc HMR.out.row _) _) rfl rfl (news1 _ _ _ _) (by intro u hu; cases List.mem_singleton.1 hu; rfl) (by omega) (by simp; omega) ?_; intro v5 w5 p1 p2 p3; obtain ⟨a5, c5', hv5, -, -⟩ := row_shape p1; subst hv5; obtain ⟨t1, t2⟩ := mk_cell (HMR.out.below (below2 wr _ _)) p2))
          exact ⟨⟨k + 1, a5, c5', by simp, by omega, (HMR.out.below (below2 wr _ _)).push HMN.out p1 p2⟩, by simp [intOf]; omega⟩
        · have HMN : Hid (mine h key k = false) := by show _ = _; rw [HMI.out]; simp [hky]
          have hkb : (x.key == key) = false := by simpa using hky
          clear hx hky
          go_wp2_with (go_at_call 17; refine (HX _).mono ?_; rintro e w4 ⟨rfl, rfl⟩)
          go_roundw
          case rel => exact ⟨k + 1, oa, oc, by simp, by omega, (HMR.out.skip HMN.out).below ((Below.refl _ wr).alloc (Nat.le_refl _) _)⟩
          case measure => simp [intOf]; omega
      · have hx' : x.counts = false := by simpa using hx
        rw [hx'] at HX
        have HMN : Hid (mine h key k = false) := by show _ = _; rw [HMI.out, hx']; simp
        clear hx hx'
        go_wp2_with (go_at_call 17; refine (HX _).mono ?_; rintro e w4 ⟨rfl, rfl⟩)
        go_roundw
        case rel => exact ⟨k + 1, oa, oc, by simp, by omega, (HMR.out.skip HMN.out).below ((Below.refl _ wr).alloc (Nat.le_refl _) _)⟩
        case measure => simp [intOf]; omega
    · have hkl : k = h.length := by omega
      subst hkl
      have hSQ := hM.sq hN hA
      have HFR := from_any h (nums h key) hc (fun i hi => by have := nums_lt i hi; omega) hval _ (nums h key).length wr 0 false [] 0 _ hSQ hM.mp (Fa.nil _ _) (Nat.two_pow_pos _) (by simp) (left0 _) (by have := cst12 hc; omega)
      unfold ptr atV str at HFR
      have HBW : Hid (Below w.heap.size w wr) := hM.bel
      clear hM HM0 hSQ
      go_wp2_with fail
      refine HFR.mono ?_
      rintro e w5 ⟨r, lv, n5, D5, hL5, rfl, hI5, hM5, hF5, hn5, hO5⟩
      obtain ⟨he1, he2⟩ := explain_gone hL5
      rw [he2] at hI5
      have HI5 : Hid (IOw w.heap.size w5 lv ((explain h key).getD [])) := ownsRow_base_a hI5 hz
      have HB5 : Hid (Below w.heap.size w w5) := HBW.out.trans (hO5.below (N := w.heap.size) hz (fun i hi => by rw [hi]; exact Nat.le_refl _))
      obtain ⟨la, lc, hls, -, -⟩ := row_shape hI5
      subst hls
      have HE1 : Hid (r.isSome = (explain h key).isSome) := he1
      clear hL5 hI5 hM5 hF5 hn5 hO5 he1 he2
      generalize r.isSome = rb at *
      go_wp2
      go_ret2
      exact ⟨_, by rw [← HE1.out]; rfl, HI5.out, HB5.out⟩
end Go.Proofs.Ytbcnpdpdflkanaa
