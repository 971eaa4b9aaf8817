/-
  spare and Keep.
-/
import Derived.Test.YtadajbdmlmickaaGreatDoorPk
import Derived.Test.YtadajbdmlmickaaGreatDoorLs
import Derived.Test.YtadajbdmlmickaaGreatDoorNmo
namespace Go.Proofs.YtadajbdmlmickaaGreatDoor
open Go.RowKit
set_option linter.unusedVariables false

theorem texts_not {N : Nat} {w : World} {v : Value} {ts : List (List UInt8)} (h : TextsIn N w v ts) {R : Nat} {cs : Array Value} {t : TypeId} {z : Nat × Nat} (hR : w.heap[R]? = some (.cells cs t z)) (ht : t ≠ 9) : v.ownBlock ≠ some R := by
  rcases h.2 with ⟨rfl, _⟩ | ⟨g, cap, cur, rfl, _, hgb, _⟩
  · simp [Value.ownBlock]
  · intro e'
    obtain rfl : g = R := by simpa [Value.ownBlock] using e'
    rw [hR] at hgb
    simp at hgb
    exact ht hgb.2.1
theorem texts_below {N B : Nat} {w w' : World} {v : Value} {ts : List (List UInt8)} (h : TextsIn N w v ts) (hB : Below B w w') (hs : w.heap.size ≤ B) : TextsIn N w' v ts :=
  World.ownsRow.kept h (row := none) ⟨hB.os, hB.tape, hB.output, hB.size, fun k hk _ => hB.block k (by omega)⟩ (by cases v.ownBlock <;> simp)
theorem texts_snoc {N : Nat} {w : World} {v : Value} {ts : List (List UInt8)} {x : List UInt8} (h : w.ownsRow N 9 1 v (ts.length + 1) (ts.map encStr ++ [.string ⟨x.toArray⟩])) : TextsIn N w v (ts ++ [x]) := by
  unfold TextsIn
  rw [List.length_append, List.map_append]
  exact h

theorem ix_row {N : Nat} {w : World} {a : Option Addr} {c : Nat} {li : List Nat} (h : In.Ow N w (.slice a li.length c) (ixI li)) (h0 : 0 < li.length) : ∃ g cs z, a = some ⟨g, 0, none⟩ ∧ N ≤ g ∧ li.length ≤ c ∧ c ≤ maxLen ∧ w.heap[g]? = some (.cells cs 3 z) ∧ ∀ V : World, V.heap[g]? = w.heap[g]? → ∀ k, k < li.length → V.cell? ⟨g, k, none⟩ = some (.int .i64 ((li.getD k 0 : Nat) : Int)) := by
  have hle : (ixI li).length = li.length := by simp [ixI]
  rcases h.2 with ⟨e1, h1⟩ | ⟨g, cap, cur, e1, hN, hb, h1, h2, h3, h4⟩
  · omega
  · injection e1 with e1 e2 e3
    subst e1 e3
    refine ⟨g, cur, _, rfl, hN, by omega, h2, hb, fun V hV k hk => ?_⟩
    simp only [World.cell?, hV, hb]
    have h5 : (cur.toList.take ((ixI li).length * 1))[k]? = ((ixI li).map (Value.int .i64))[k]? := by rw [h4]
    rw [List.getElem?_take, if_pos (by omega)] at h5
    rw [← Array.getElem?_toList, h5, List.getElem?_map]
    unfold ixI
    rw [List.getElem?_map, List.getElem?_eq_getElem hk, List.getD_eq_getElem?_getD, List.getElem?_eq_getElem hk]
    rfl

set_option maxRecDepth 100000 in
set_option maxHeartbeats 8000000 in
theorem spare_any {N : Nat} {S : Nat → Prop} {w : World} {d : Nat} {p : PD} (h : Dsk N w S d p) (hv : ∀ V, Below w.heap.size w V → Vars V) (n : Nat) (hn : n ≤ 9223372036854775807) :
    Calls Tryz.prog 66 #[.pointer (some ⟨d, 0, none⟩), .int .i64 (n : Int)] w fun r w' => ∃ a c, r = .returned (.slice a (spareL p n).length c) ∧ TextsIn w.heap.size w' (.slice a (spareL p n).length c) (spareL p n) ∧ Below w.heap.size w w' := by
  obtain ⟨i0, hi, hz0, hz1, hz2⟩ := info_parts info9
  have HH : Hid (Calls _ _ _ _ _) := has_x h tmpL (by simp [tmpL, maxLen])
  have HV : Hid (∀ V, Below w.heap.size w V → Vars V) := hv
  have HLS : Hid (∀ w1, Below w.heap.size w w1 → Calls Tryz.prog 16 #[.pointer (some ⟨d, 0, none⟩)] w1 fun r w' => ∃ a c, r = .returned (.slice a (listP p).length c) ∧ In.Ow w1.heap.size w' (.slice a (listP p).length c) (ixI (listP p)) ∧ Below w1.heap.size w1 w') := fun w1 hB => list_s (h.below hB) (fun V hV => hv V (hB.trans (hV.mono hB.size)))
  have HMX : Hid (∀ x ∈ listP p, x ≤ 4611686018427387904) := fun x hx => (list_mem hx).2.1
  have hL256 : (listP p).length ≤ 256 := by have := pick_len (p.fs.map PF.nm); rw [← pick_list] at this; have := h.few; simp at *; omega
  obtain ⟨bt, hbt⟩ : ∃ bt, (lookP tmpL p.fs).isSome = bt := ⟨_, rfl⟩
  have HSP : Hid (spareL p n = (if bt then [tmpL] else []) ++ ((listP p).take ((listP p).length - n)).map nmL) := by show _ = _; unfold spareL; rw [hbt]
  rw [hbt] at HH
  obtain ⟨sp, hsp⟩ : ∃ sp, spareL p n = sp := ⟨_, rfl⟩
  rw [hsp] at HSP ⊢
  obtain ⟨li, hli⟩ : ∃ li, listP p = li := ⟨_, rfl⟩
  rw [hli] at HLS HMX hL256 HSP
  clear h hv hbt hsp hli
  go_enter Tryz.func66, Tryz.ntmps66
  go_wp2_with fail
  refine HH.out.mono ?_
  rintro r w0 ⟨rfl, hw0⟩
  subst hw0
  clear HH
  cases bt
  · have HT1 : Hid (TextsIn w0.heap.size w0 (.slice none 0 0) []) := World.ownsRow_nil _ _ _ _
    have HB1 : Hid (Below w0.heap.size w0 w0) := Below.refl _ _
    go_wp2_with fail
    refine (HLS.out w0 HB1.out).mono ?_
    rintro r w2 ⟨a2, c2, rfl, hO2, hB2⟩
    have HB2 : Hid (Below w0.heap.size w0 w2) := HB1.out.trans (hB2.mono HB1.out.size)
    have HT2 : Hid (TextsIn w0.heap.size w2 (.slice none 0 0) []) := texts_below HT1.out hB2 (Nat.le_refl _)
    clear hB2 HLS HT1 HB1
    by_cases hq : n < li.length
    · obtain ⟨g, cs, z, ha, -, hc1, hc2, hgb, hce⟩ := ix_row hO2 (by omega)
      subst ha
      unfold maxLen at hc2
      have HCE : Hid (∀ V : World, V.heap[g]? = w2.heap[g]? → g < V.heap.size ∧ ∀ k, k < li.length → V.cell? ⟨g, k, none⟩ = some (.int .i64 ((li.getD k 0 : Nat) : Int))) := fun V hV => ⟨by rw [hgb] at hV; exact (Array.getElem?_eq_some_iff.1 hV).1, hce V hV⟩
      have HGB : Hid (w2.heap[g]? = some (.cells cs 3 z)) := hgb
      have hmx : (0 : Int) < (li.length : Int) - (n : Int) := by omega
      obtain ⟨q, hqq⟩ : ∃ q : Nat, li.length - n = q := ⟨_, rfl⟩
      have hq1 : (li.length : Int) - (n : Int) = (q : Int) := by omega
      have hq2 : q ≤ li.length := by omega
      have hq3 : (q : Int) ≤ (c2 : Int) := by omega
      have hq0 : (0 : Int) < (q : Int) := by omega
      rw [hqq] at HSP
      clear hO2 hce hgb hqq
      go_wp2_with fail
      go_loopw [5, 24] (fun nv kv wr => ∃ k : Nat, kv = .int .i64 (k : Int) ∧ k ≤ q ∧ TextsIn w0.heap.size wr nv ([] ++ (li.take k).map nmL) ∧ Below w0.heap.size w0 wr ∧ wr.heap[g]? = w2.heap[g]?) (fun _ kv _ => q - (intOf kv).toNat)
      case atStart => exact ⟨0, rfl, Nat.zero_le _, by simpa using HT2.out, HB2.out, rfl⟩
      case round =>
        obtain ⟨k, rfl, hk, hT, hB, hG⟩ := hrel
        have HT : Hid (TextsIn w0.heap.size wr u5 ([] ++ (li.take k).map nmL)) := hT
        have HB : Hid (Below w0.heap.size w0 wr) := hB
        have HG : Hid (wr.heap[g]? = w2.heap[g]?) := hG
        clear hT hB hG HT2 HB2
        by_cases hlt : k < q
        · have k0 : (0 : Int) ≤ (k : Int) := by omega
          have k1 : (k : Int) < (q : Int) := by omega
          obtain ⟨hgl, hce⟩ := HCE.out wr HG.out
          have hck := hce k (by omega)
          have hmem : li.getD k 0 ∈ li := by rw [List.getD_eq_getElem?_getD, List.getElem?_eq_getElem (by omega)]; exact List.getElem_mem _
          have hx4 := HMX.out _ hmem
          have HSN : Hid ([] ++ (li.take (k + 1)).map nmL = ([] ++ (li.take k).map nmL) ++ [nmL (li.getD k 0)]) := by
            show _ = _
            rw [List.take_succ_eq_append_getElem (by omega), List.map_append, List.append_assoc, List.getD_eq_getElem?_getD, List.getElem?_eq_getElem (by omega)]
            rfl
          have htl : ([] ++ (li.take k).map nmL).length ≤ 300 := by simp; omega
          obtain ⟨x, hx⟩ : ∃ x, li.getD k 0 = x := ⟨_, rfl⟩
          rw [hx] at hck hx4 HSN
          clear hx hce hmem
          have HNO : Hid (Calls _ _ _ _ _) := nameOf_any x hx4 wr (HV.out _ HB.out)
          generalize [] ++ (li.take k).map nmL = ts at *
          clear hx4
          go_wp2_with fail
          refine HNO.out.mono ?_
          rintro r w3 ⟨rfl, hB3⟩
          have HB3 : Hid (Below w0.heap.size w0 w3) := HB.out.trans (hB3.mono HB.out.size)
          have HT3 : Hid (TextsIn w0.heap.size w3 u5 ts) := texts_below HT.out hB3 (Nat.le_refl _)
          have HG3 : Hid (w3.heap[g]? = w2.heap[g]?) := (hB3.block g hgl).trans HG.out
          have hrow3 : w3.ownsRow w0.heap.size 9 1 u5 ts.length (ts.map encStr) := HT3.out
          have hz3 : w0.heap.size ≤ w3.heap.size := HB3.out.size
          have HNE : Hid (u5.ownBlock ≠ some g) := texts_not HT3.out (HG3.out.trans HGB.out) (by decide)
          have hg3 : g < w3.heap.size := Nat.lt_of_lt_of_le hgl hB3.size
          clear hB3 HNO HT HB HG hck hgl
          go_wp2_with (first
            | (at_builtin; refine wpList_append_own_at _ rfl _ _ 91 rfl w0.heap.size 9 i0 (.string ByteArray.empty) 1 16 Tryz.underlying91 hi hz0 hz1 hz2 rfl (by decide) _ _ _ rfl (World.ownsRow.alloc hrow3 _) ⟨w3.heap.size, 0, none⟩ 1 1 [.string ⟨(nmL x).toArray⟩] rfl rfl (cell_one_new _ _ _) (by simp [Value.oneCell']) (by unfold maxLen; omega) (by omega) (by simp; omega) ?_; intro v4 w4 hown4 hg4 hnil4 hloc4; have HT4 : Hid (TextsIn w0.heap.size w4 v4 (ts ++ [nmL x])) := texts_snoc hown4; have HB4 : Hid (Below w0.heap.size w0 w4) := (HB3.out.alloc HB3.out.size _).grown hg4 (by simp; omega) (fun j hj => (World.ownsRow.lt hrow3 j hj).1); have HG4 : Hid (w4.heap[g]? = w2.heap[g]?) := (hg4.block g (by simp; omega) (fun e => HNE.out e.symm)).trans ((heap_alloc_old w3 _ hg3).trans HG3.out); clear hown4 hg4 hnil4 hloc4)
            | fail)
          rw [← HSN.out] at HT4
          exact ⟨⟨k + 1, by go_num, by omega, HT4.out, HB4.out, HG4.out⟩, by simp [intOf]; omega⟩
        · have k1 : ¬ (k : Int) < (q : Int) := by omega
          have hkq : k = q := by omega
          subst hkq
          have HSP2 : Hid (sp = [] ++ (li.take k).map nmL) := HSP.out
          rw [← HSP2.out] at HT
          obtain ⟨ra, rc, hu5⟩ := row_shape_x HT.out
          subst hu5
          go_wp2
          go_ret
          exact ⟨ra, rc, rfl, HT.out, HB.out⟩
    · have hmx : ¬ (0 : Int) < (li.length : Int) - (n : Int) := by omega
      have hmx2 : (li.length : Int) - (n : Int) ≤ 0 := by omega
      have HSP2 : Hid (sp = []) := by show _ = _; rw [HSP.out, show li.length - n = 0 by omega]; simp
      obtain ⟨a', c', e, q1, q2, -⟩ := hO2.sl (Nat.le_refl _)
      injection e with e1 e2 e3
      subst e1 e3
      unfold maxLen at q2
      clear hO2 q1 e2
      rw [← HSP2.out] at HT2
      cases a2 with
      | none =>
        go_wp2_with fail
        go_loopw [5, 24] (fun nv kv wr => TextsIn w0.heap.size wr nv sp ∧ Below w0.heap.size w0 wr ∧ kv = .int .i64 0) (fun _ kv _ => 0)
        case atStart => exact ⟨HT2.out, HB2.out, rfl⟩
        case round =>
          obtain ⟨hT, hB, rfl⟩ := hrel
          obtain ⟨ra, rc, hu5⟩ := row_shape_x hT
          subst hu5
          have HT : Hid (TextsIn w0.heap.size wr (.slice ra sp.length rc) sp) := hT
          have HB : Hid (Below w0.heap.size w0 wr) := hB
          clear hT hB
          go_wp2
          go_ret
          exact ⟨ra, rc, rfl, HT.out, HB.out⟩
      | some ad =>
        obtain ⟨gb, go, ge⟩ := ad
        go_wp2_with fail
        go_loopw [5, 24] (fun nv kv wr => TextsIn w0.heap.size wr nv sp ∧ Below w0.heap.size w0 wr ∧ kv = .int .i64 0) (fun _ kv _ => 0)
        case atStart => exact ⟨HT2.out, HB2.out, rfl⟩
        case round =>
          obtain ⟨hT, hB, rfl⟩ := hrel
          obtain ⟨ra, rc, hu5⟩ := row_shape_x hT
          subst hu5
          have HT : Hid (TextsIn w0.heap.size wr (.slice ra sp.length rc) sp) := hT
          have HB : Hid (Below w0.heap.size w0 wr) := hB
          clear hT hB
          go_wp2
          go_ret
          exact ⟨ra, rc, rfl, HT.out, HB.out⟩
  · go_wp2_with (first
      | (at_builtin; refine wpList_append_own_at _ rfl _ _ 91 rfl w0.heap.size 9 i0 (.string ByteArray.empty) 1 16 Tryz.underlying91 hi hz0 hz1 hz2 rfl (by decide) _ 0 [] rfl (World.ownsRow_nil _ _ _ _) ⟨w0.heap.size, 0, none⟩ 1 1 [.string ⟨tmpL.toArray⟩] rfl rfl (cell_one_new _ _ _) (by simp [Value.oneCell']) (by unfold maxLen; omega) (by omega) (by simp) ?_; intro nv w1 hown1 hg1 hnil1 hloc1)
      | fail)
    have HT1 : Hid (TextsIn w0.heap.size w1 nv [tmpL]) := texts_snoc (ts := []) hown1
    have HB1 : Hid (Below w0.heap.size w0 w1) := ((Below.refl _ w0).alloc (Nat.le_refl _) _).grown hg1 (by simp) (fun j hj => by cases hj)
    clear hown1 hg1 hnil1 hloc1
    go_wp2_with fail
    refine (HLS.out w1 HB1.out).mono ?_
    rintro r w2 ⟨a2, c2, rfl, hO2, hB2⟩
    have HB2 : Hid (Below w0.heap.size w0 w2) := HB1.out.trans (hB2.mono HB1.out.size)
    have HT2 : Hid (TextsIn w0.heap.size w2 nv [tmpL]) := texts_below HT1.out hB2 (Nat.le_refl _)
    clear hB2 HLS HT1 HB1
    by_cases hq : n < li.length
    · obtain ⟨g, cs, z, ha, -, hc1, hc2, hgb, hce⟩ := ix_row hO2 (by omega)
      subst ha
      unfold maxLen at hc2
      have HCE : Hid (∀ V : World, V.heap[g]? = w2.heap[g]? → g < V.heap.size ∧ ∀ k, k < li.length → V.cell? ⟨g, k, none⟩ = some (.int .i64 ((li.getD k 0 : Nat) : Int))) := fun V hV => ⟨by rw [hgb] at hV; exact (Array.getElem?_eq_some_iff.1 hV).1, hce V hV⟩
      have HGB : Hid (w2.heap[g]? = some (.cells cs 3 z)) := hgb
      have hmx : (0 : Int) < (li.length : Int) - (n : Int) := by omega
      obtain ⟨q, hqq⟩ : ∃ q : Nat, li.length - n = q := ⟨_, rfl⟩
      have hq1 : (li.length : Int) - (n : Int) = (q : Int) := by omega
      have hq2 : q ≤ li.length := by omega
      have hq3 : (q : Int) ≤ (c2 : Int) := by omega
      have hq0 : (0 : Int) < (q : Int) := by omega
      rw [hqq] at HSP
      clear hO2 hce hgb hqq
      go_wp2_with fail
      go_loopw [5, 24] (fun nv kv wr => ∃ k : Nat, kv = .int .i64 (k : Int) ∧ k ≤ q ∧ TextsIn w0.heap.size wr nv ([tmpL] ++ (li.take k).map nmL) ∧ Below w0.heap.size w0 wr ∧ wr.heap[g]? = w2.heap[g]?) (fun _ kv _ => q - (intOf kv).toNat)
      case atStart => exact ⟨0, rfl, Nat.zero_le _, by simpa using HT2.out, HB2.out, rfl⟩
      case round =>
        obtain ⟨k, rfl, hk, hT, hB, hG⟩ := hrel
        have HT : Hid (TextsIn w0.heap.size wr u5 ([tmpL] ++ (li.take k).map nmL)) := hT
        have HB : Hid (Below w0.heap.size w0 wr) := hB
        have HG : Hid (wr.heap[g]? = w2.heap[g]?) := hG
        clear hT hB hG HT2 HB2
        by_cases hlt : k < q
        · have k0 : (0 : Int) ≤ (k : Int) := by omega
          have k1 : (k : Int) < (q : Int) := by omega
          obtain ⟨hgl, hce⟩ := HCE.out wr HG.out
          have hck := hce k (by omega)
          have hmem : li.getD k 0 ∈ li := by rw [List.getD_eq_getElem?_getD, List.getElem?_eq_getElem (by omega)]; exact List.getElem_mem _
          have hx4 := HMX.out _ hmem
          have HSN : Hid ([tmpL] ++ (li.take (k + 1)).map nmL = ([tmpL] ++ (li.take k).map nmL) ++ [nmL (li.getD k 0)]) := by
            show _ = _
            rw [List.take_succ_eq_append_getElem (by omega), List.map_append, List.append_assoc, List.getD_eq_getElem?_getD, List.getElem?_eq_getElem (by omega)]
            rfl
          have htl : ([tmpL] ++ (li.take k).map nmL).length ≤ 300 := by simp; omega
          obtain ⟨x, hx⟩ : ∃ x, li.getD k 0 = x := ⟨_, rfl⟩
          rw [hx] at hck hx4 HSN
          clear hx hce hmem
          have HNO : Hid (Calls _ _ _ _ _) := nameOf_any x hx4 wr (HV.out _ HB.out)
          generalize [tmpL] ++ (li.take k).map nmL = ts at *
          clear hx4
          go_wp2_with fail
          refine HNO.out.mono ?_
          rintro r w3 ⟨rfl, hB3⟩
          have HB3 : Hid (Below w0.heap.size w0 w3) := HB.out.trans (hB3.mono HB.out.size)
          have HT3 : Hid (TextsIn w0.heap.size w3 u5 ts) := texts_below HT.out hB3 (Nat.le_refl _)
          have HG3 : Hid (w3.heap[g]? = w2.heap[g]?) := (hB3.block g hgl).trans HG.out
          have hrow3 : w3.ownsRow w0.heap.size 9 1 u5 ts.length (ts.map encStr) := HT3.out
          have hz3 : w0.heap.size ≤ w3.heap.size := HB3.out.size
          have HNE : Hid (u5.ownBlock ≠ some g) := texts_not HT3.out (HG3.out.trans HGB.out) (by decide)
          have hg3 : g < w3.heap.size := Nat.lt_of_lt_of_le hgl hB3.size
          clear hB3 HNO HT HB HG hck hgl
          go_wp2_with (first
            | (at_builtin; refine wpList_append_own_at _ rfl _ _ 91 rfl w0.heap.size 9 i0 (.string ByteArray.empty) 1 16 Tryz.underlying91 hi hz0 hz1 hz2 rfl (by decide) _ _ _ rfl (World.ownsRow.alloc hrow3 _) ⟨w3.heap.size, 0, none⟩ 1 1 [.string ⟨(nmL x).toArray⟩] rfl rfl (cell_one_new _ _ _) (by simp [Value.oneCell']) (by unfold maxLen; omega) (by omega) (by simp; omega) ?_; intro v4 w4 hown4 hg4 hnil4 hloc4; have HT4 : Hid (TextsIn w0.heap.size w4 v4 (ts ++ [nmL x])) := texts_snoc hown4; have HB4 : Hid (Below w0.heap.size w0 w4) := (HB3.out.alloc HB3.out.size _).grown hg4 (by simp; omega) (fun j hj => (World.ownsRow.lt hrow3 j hj).1); have HG4 : Hid (w4.heap[g]? = w2.heap[g]?) := (hg4.block g (by simp; omega) (fun e => HNE.out e.symm)).trans ((heap_alloc_old w3 _ hg3).trans HG3.out); clear hown4 hg4 hnil4 hloc4)
            | fail)
          rw [← HSN.out] at HT4
          exact ⟨⟨k + 1, by go_num, by omega, HT4.out, HB4.out, HG4.out⟩, by simp [intOf]; omega⟩
        · have k1 : ¬ (k : Int) < (q : Int) := by omega
          have hkq : k = q := by omega
          subst hkq
          have HSP2 : Hid (sp = [tmpL] ++ (li.take k).map nmL) := HSP.out
          rw [← HSP2.out] at HT
          obtain ⟨ra, rc, hu5⟩ := row_shape_x HT.out
          subst hu5
          go_wp2
          go_ret
          exact ⟨ra, rc, rfl, HT.out, HB.out⟩
    · have hmx : ¬ (0 : Int) < (li.length : Int) - (n : Int) := by omega
      have hmx2 : (li.length : Int) - (n : Int) ≤ 0 := by omega
      have HSP2 : Hid (sp = [tmpL]) := by show _ = _; rw [HSP.out, show li.length - n = 0 by omega]; simp
      obtain ⟨a', c', e, q1, q2, -⟩ := hO2.sl (Nat.le_refl _)
      injection e with e1 e2 e3
      subst e1 e3
      unfold maxLen at q2
      clear hO2 q1 e2
      rw [← HSP2.out] at HT2
      cases a2 with
      | none =>
        go_wp2_with fail
        go_loopw [5, 24] (fun nv kv wr => TextsIn w0.heap.size wr nv sp ∧ Below w0.heap.size w0 wr ∧ kv = .int .i64 0) (fun _ kv _ => 0)
        case atStart => exact ⟨HT2.out, HB2.out, rfl⟩
        case round =>
          obtain ⟨hT, hB, rfl⟩ := hrel
          obtain ⟨ra, rc, hu5⟩ := row_shape_x hT
          subst hu5
          have HT : Hid (TextsIn w0.heap.size wr (.slice ra sp.length rc) sp) := hT
          have HB : Hid (Below w0.heap.size w0 wr) := hB
          clear hT hB
          go_wp2
          go_ret
          exact ⟨ra, rc, rfl, HT.out, HB.out⟩
      | some ad =>
        obtain ⟨gb, go, ge⟩ := ad
        go_wp2_with fail
        go_loopw [5, 24] (fun nv kv wr => TextsIn w0.heap.size wr nv sp ∧ Below w0.heap.size w0 wr ∧ kv = .int .i64 0) (fun _ kv _ => 0)
        case atStart => exact ⟨HT2.out, HB2.out, rfl⟩
        case round =>
          obtain ⟨hT, hB, rfl⟩ := hrel
          obtain ⟨ra, rc, hu5⟩ := row_shape_x hT
          subst hu5
          have HT : Hid (TextsIn w0.heap.size wr (.slice ra sp.length rc) sp) := hT
          have HB : Hid (Below w0.heap.size w0 wr) := hB
          clear hT hB
          go_wp2
          go_ret
          exact ⟨ra, rc, rfl, HT.out, HB.out⟩

/-- How many Keep tells. -/
def keepN (e n : Nat) : Nat := if e = 0 then n else 0
theorem spare_len {p : PD} {n : Nat} {x : List UInt8} (h : x ∈ spareL p n) : x.length ≤ maxLen := by
  unfold spareL at h
  unfold maxLen
  rcases List.mem_append.1 h with h | h
  · split at h
    · rw [List.mem_singleton.1 h]; simp [tmpL]
    · simp at h
  · obtain ⟨i, -, rfl⟩ := List.mem_map.1 h
    rw [nmL_len]; omega
set_option maxRecDepth 100000 in
set_option maxHeartbeats 8000000 in
theorem keep_any {N : Nat} {S : Nat → Prop} {w : World} {d : Nat} {p : PD} (h : Dsk N w S d p) (hN : N ≤ w.heap.size) (hv : ∀ V, Below w.heap.size w V → Vars V) (n : Nat) (hn0 : 1 ≤ n) (hn : n ≤ 9223372036854775807) :
    Calls Tryz.prog 28 #[.pointer (some ⟨d, 0, none⟩), .int .i64 (n : Int)] w fun r w' => r = .returned (.tuple #[.int .i64 ((keepN (remL p (spareL p n)).1 (spareL p n).length) : Int), .int .i64 ((remL p (spareL p n)).1 : Int)]) ∧ Then N S w w' d (remL p (spareL p n)).2 := by
  have HSS : Hid (∀ i, S i → i < w.heap.size ∧ N ≤ i) := fun i hi => ⟨h.inn i hi, h.from i hi⟩
  have HSP : Hid (Calls _ _ _ _ _) := spare_any h hv n hn
  have HXL : Hid (∀ x ∈ spareL p n, x.length ≤ maxLen) := fun x hx => spare_len hx
  have HD : Hid (Dsk N w S d p) := h
  have hlen : (spareL p n).length ≤ 300 := by
    have := pick_len (p.fs.map PF.nm); rw [← pick_list] at this; have := h.few
    unfold spareL
    rw [List.length_append, List.length_map, List.length_take]
    split <;> simp at * <;> omega
  have hn1 : ¬ (n : Int) < 1 := by omega
  generalize spareL p n = ns at *
  obtain ⟨X, hX⟩ : ∃ X, remL p ns = X := ⟨_, rfl⟩
  have HX : Hid (remL p ns = X) := hX
  rw [hX]
  clear h hv hX
  go_enter Tryz.func28, Tryz.ntmps28
  go_wp2_with fail
  refine HSP.out.mono ?_
  rintro r w1 ⟨a1, c1, rfl, hT1, hB1⟩
  have HT1 : Hid (TextsIn w.heap.size w1 (.slice a1 ns.length c1) ns) := hT1
  have hz1 : w.heap.size ≤ w1.heap.size := hB1.size
  have HBX1 : Hid (Bx N S w w1 w1 d p) := Bx.start HD.out hB1
  clear hT1 hB1 HSP HD
  go_wp2_with fail
  go_loopw [17] (fun kv wr => ∃ (k : Nat) (pk : PD), kv = .int .i64 (k : Int) ∧ k ≤ ns.length ∧ remL p (ns.take k) = (0, pk) ∧ Bx N S w w1 wr d pk) (fun kv _ => ns.length - (intOf kv).toNat)
  case atStart => exact ⟨0, p, rfl, Nat.zero_le _, rfl, HBX1.out⟩
  case round =>
    obtain ⟨k, pk, rfl, hk, hR, hb⟩ := hrel
    have HR : Hid (remL p (ns.take k) = (0, pk)) := hR
    have HBX : Hid (Bx N S w w1 wr d pk) := hb
    clear hR hb HBX1
    by_cases hlt : k < ns.length
    · have k0 : (0 : Int) ≤ (k : Int) := by omega
      have k1 : (k : Int) < (ns.length : Int) := by omega
      obtain ⟨g, ha, hg0, hg1, hc⟩ := texts_at HT1.out rfl hlt
      subst ha
      have hc' : wr.cell? ⟨g, k, none⟩ = some (.string ⟨(ns.getD k []).toArray⟩) := by
        rw [← hc]; simp only [World.cell?]; rw [HBX.out.keep g hg0 hg1]
      have hgl : g < wr.heap.size := Nat.lt_of_lt_of_le hg1 HBX.out.ks
      have hmem : ns.getD k [] ∈ ns := by rw [List.getD_eq_getElem?_getD, List.getElem?_eq_getElem hlt]; exact List.getElem_mem _
      have hxl := HXL.out _ hmem
      have HST : Hid (remL p (ns.take (k + 1)) = doRemove pk (ns.getD k [])) := by
        show _ = _
        rw [List.take_succ_eq_append_getElem hlt, remL_snoc, HR.out, List.getD_eq_getElem?_getD, List.getElem?_eq_getElem hlt]
        rfl
      obtain ⟨x, hx⟩ : ∃ x, ns.getD k [] = x := ⟨_, rfl⟩
      rw [hx] at hc' hxl HST
      have HRM : Hid (Calls _ _ _ _ _) := HBX.out.op HSS.out hN hz1 (x := doRemove pk x) (fun S' hD hz _ => op_x (X := fun p => doRemove p x) hD hz (fun k hk hS => remove_any hk x hxl))
      obtain ⟨e, he⟩ : ∃ e, (doRemove pk x).1 = e := ⟨_, rfl⟩
      have HE : Hid ((doRemove pk x).1 = e) := he
      rw [he] at HRM
      clear hx hc hmem hxl he
      go_wp2_with fail
      refine HRM.out.mono ?_
      rintro r w2 ⟨rfl, hb2⟩
      have HB2 : Hid (Bx N S w w1 w2 d (doRemove pk x).2) := hb2
      clear hb2 HRM hc' hgl
      by_cases h0 : e = 0
      · subst h0
        have HST2 : Hid (remL p (ns.take (k + 1)) = (0, (doRemove pk x).2)) := by show _ = _; rw [HST.out, ← HE.out]
        go_wp2
        exact ⟨⟨k + 1, _, by go_num, by omega, HST2.out, HB2.out⟩, by simp [intOf]; omega⟩
      · have h0' : ((e : Int) != 0) = true := by simp; omega
        have HST2 : Hid (remL p ns = doRemove pk x) := by
          show _ = _
          rw [remL_stop p ns (k + 1) (by rw [HST.out, HE.out]; exact h0), HST.out]
        go_wp2
        go_ret2
        have hX : X = doRemove pk x := HX.out.symm.trans HST2.out
        have hX1 : X.1 = e := by rw [hX]; exact HE.out
        refine ⟨?_, by rw [hX]; exact HB2.out.thn HSS.out hN hz1⟩
        rw [hX1, show keepN e ns.length = 0 by unfold keepN; rw [if_neg h0]]
        rfl
    · have k1 : ¬ (k : Int) < (ns.length : Int) := by omega
      have HST2 : Hid (remL p ns = (0, pk)) := by show _ = _; have := HR.out; rwa [List.take_of_length_le (by omega)] at this
      go_wp2
      go_ret2
      have hX : X = (0, pk) := HX.out.symm.trans HST2.out
      subst hX
      exact ⟨rfl, HBX.out.thn HSS.out hN hz1⟩
end Go.Proofs.YtadajbdmlmickaaGreatDoor
