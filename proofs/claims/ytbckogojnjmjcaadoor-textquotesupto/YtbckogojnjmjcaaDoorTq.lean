/-
  Quoted words with a blank between are these words: the walk.
-/
import Derived.Test.YtbckogojnjmjcaaDoorPc
import Derived.Test.YtbckogojnjmjcaaDoorA7x
namespace Go.Proofs.YtbckogojnjmjcaaDoor
open Go.RowKit Go.Shelf

theorem words_long (s : Bs) (h4 : 4096 < s.length) (hl : s.length ≤ 1000000000000) (w : World) : Calls Tryd.prog 10 #[.string ⟨s.toArray⟩] w fun e w' => e = .returned (.tuple #[.slice none 0 0, .int .i64 3]) ∧ w' = w := by
  have hz : (⟨s.toArray⟩ : ByteArray).size = s.length := by show s.toArray.size = _; simp
  go_enter Tryd.func10, Tryd.ntmps10
  go_wp2
  go_ret2
  exact ⟨rfl, rfl⟩
theorem cat2 (a b : Bs) : (⟨a.toArray⟩ : ByteArray) ++ ⟨b.toArray⟩ = ⟨(a ++ b).toArray⟩ := by
  apply ByteArray.ext
  simp [ByteArray.data_append]
theorem quoteL_len (s : Bs) : (quoteL s).length ≤ 4 * s.length + 2 := by
  unfold quoteL
  split
  · omega
  · have := (flat_len s).2
    simp only [List.length_cons, List.length_append, List.length_nil]
    omega
def sumL (l : List Bs) : Nat := (l.map List.length).sum
theorem join_snoc (xs : List Bs) (x : Bs) : Lib.join (xs ++ [x]) [32] = if xs = [] then x else Lib.join xs [32] ++ [32] ++ x := by
  induction xs with
  | nil => simp [Lib.join]
  | cons y xs ih =>
    cases xs with
    | nil => simp [Lib.join, List.intercalate]
    | cons z xs =>
      rw [if_neg (by simp)]
      rw [if_neg (by simp)] at ih
      have e1 : Lib.join (y :: z :: xs ++ [x]) [32] = y ++ [32] ++ Lib.join (z :: xs ++ [x]) [32] := by simp [Lib.join, List.intercalate]
      have e2 : Lib.join (y :: z :: xs) [32] = y ++ [32] ++ Lib.join (z :: xs) [32] := by simp [Lib.join, List.intercalate]
      rw [e1, ih, e2]
      simp
theorem jq_len (l : List Bs) : (Lib.join (l.map quoteL) [32]).length ≤ 4 * sumL l + 3 * l.length := by
  induction l with
  | nil => simp [Lib.join, sumL]
  | cons x l ih =>
    have hx := quoteL_len x
    cases l with
    | nil => simp [Lib.join, sumL]; omega
    | cons y l =>
      have e : Lib.join ((x :: y :: l).map quoteL) [32] = quoteL x ++ [32] ++ Lib.join ((y :: l).map quoteL) [32] := by simp [Lib.join, List.intercalate]
      rw [e, List.length_append, List.length_append]
      simp only [sumL, List.map_cons, List.sum_cons, List.length_cons, List.length_nil] at ih ⊢
      omega
theorem sum_take (l : List Bs) (k : Nat) : sumL (l.take k) ≤ sumL l := by
  induction l generalizing k with
  | nil => simp
  | cons x l ih =>
    cases k with
    | zero => simp [sumL]
    | succ k => have := ih k; simp only [sumL, List.take_succ_cons, List.map_cons, List.sum_cons] at this ⊢; omega
theorem le_sum {l : List Bs} {x : Bs} (h : x ∈ l) : x.length ≤ sumL l := by
  induction l with
  | nil => cases h
  | cons y l ih =>
    simp only [sumL, List.map_cons, List.sum_cons]
    rcases List.mem_cons.1 h with rfl | h
    · omega
    · have := ih h; simp only [sumL] at this; omega
set_option maxRecDepth 100000 in
set_option maxHeartbeats 8000000 in
theorem quotes_walk (w : World) (hv : Vars w) (a : Option Addr) (c : Nat) (l : List Bs) (hS : SRd w (.slice a l.length c) l) (hl : l.length ≤ maxLen) (hsum : sumL l ≤ 1048576) : Calls Tryd.prog 4 #[.slice a l.length c] w fun e w' => e = .returned (.bool true) ∧ Below w.heap.size w w' := by
  have HV : Hid (∀ W, Below w.heap.size w W → Vars W) := fun W h => hv.below h
  have HN := num_any
  have HFI := first_any w hv
  have HS : Hid (SRd w (.slice a l.length c) l) := hS
  have HSM : Hid (∀ x ∈ l, x.length ≤ 1048576) := fun x hx => by have := le_sum hx; omega
  have HJQ : Hid (∀ k, k ≤ 50 → (Lib.join ((l.take k).map quoteL) [32]).length ≤ 4200000) := fun k hk => by
    have h1 := jq_len (l.take k)
    have h2 := sum_take l k
    have h3 : (l.take k).length ≤ 50 := by rw [List.length_take]; omega
    show _ ≤ _
    omega
  unfold maxLen at hl
  clear hv hS hsum
  generalize hn : l.length = n at *
  have HN0 : Hid (l.length = n) := hn
  clear hn
  go_enter Tryd.func4, Tryd.ntmps4
  go_wp2_with fail
  refine HFI.mono ?_
  rintro e w1 ⟨rfl, hB1⟩
  have HB1 : Hid (Below w.heap.size w w1) := hB1
  clear hB1 HFI
  go_wp2
  go_loopw [4, 5] (fun vn i wr => ∃ k nn : Nat, vn = .int .i64 nn ∧ i = .int .i64 k ∧ k ≤ n ∧ k ≤ 51 ∧ nn ≤ 40000 ∧ Hid (Below w.heap.size w wr)) (fun _ i _ => 100 - (intOf i).toNat)
  case atStart => exact ⟨0, 0, rfl, rfl, by omega, by omega, by omega, HB1.out⟩
  case round =>
    obtain ⟨k, nn, rfl, rfl, hk, hk51, hnn, HBR⟩ := hrel
    by_cases hlt : k < n ∧ k ≤ 50
    · obtain ⟨hk1, hk2⟩ := hlt
      have hrd : SRd wr (.slice a l.length c) l := by rw [HN0.out]; exact HS.out.below HBR.out
      obtain ⟨b, off, rfl, hb, hc⟩ := hrd.at (k := k) (by rw [HN0.out]; exact hk1)
      have hkw : k < l.length := by rw [HN0.out]; exact hk1
      have hxl : (l.getD k []).length ≤ 1048576 := HSM.out _ (by rw [List.getD_eq_getElem?_getD, List.getElem?_eq_getElem hkw]; exact List.getElem_mem hkw)
      unfold str at hc
      generalize l.getD k [] = x at *
      clear hrd hkw
      go_wp2
      go_roundw
      case rel => exact ⟨k + 1, min (nn + min x.length 20000) 40000, by congr 1; omega, by simp, by omega, by omega, by omega, HBR.out⟩
      case measure => simp [intOf]; omega
    by_cases h50 : 50 < n
    · have hke : k = 51 := by omega
      subst hke
      by_cases h51 : 51 < n
      · go_wp2
        go_ret
        exact ⟨rfl, HBR.out⟩
      · go_wp2
        go_ret
        exact ⟨rfl, HBR.out⟩
    have hke : k = n := by omega
    subst hke
    by_cases hnr : 20000 < nn
    · go_wp2
      go_ret
      exact ⟨rfl, HBR.out⟩
    clear hlt
    generalize hWW : wr = W1 at *
    clear hWW
    go_wp2
    go_loopw [6, 7] (fun vl i wr => ∃ j : Nat, vl = .string ⟨(Lib.join ((l.take j).map quoteL) [32]).toArray⟩ ∧ i = .int .i64 j ∧ j ≤ k ∧ Hid (Below w.heap.size w wr)) (fun _ i _ => k - (intOf i).toNat)
    case atStart => exact ⟨0, rfl, rfl, by omega, HBR.out⟩
    case round =>
      obtain ⟨j, rfl, rfl, hj, HB2⟩ := hrel
      have hjl := HJQ.out j (by omega)
      by_cases hlt : j < k
      · have hrd : SRd wr (.slice a l.length c) l := by rw [HN0.out]; exact HS.out.below HB2.out
        obtain ⟨b, off, rfl, hb, hc⟩ := hrd.at (k := j) (by rw [HN0.out]; exact hlt)
        have hkw : j < l.length := by rw [HN0.out]; exact hlt
        have hxl : (l.getD j []).length ≤ 1048576 := HSM.out _ (by rw [List.getD_eq_getElem?_getD, List.getElem?_eq_getElem hkw]; exact List.getElem_mem hkw)
        have HTK : Hid ((l.take (j + 1)).map quoteL = (l.take j).map quoteL ++ [quoteL (l.getD j [])]) := by
          show _ = _
          rw [List.take_add_one, List.getElem?_eq_getElem hkw, List.map_append, List.getD_eq_getElem?_getD, List.getElem?_eq_getElem hkw]
          rfl
        have HJN : Hid (Lib.join ((l.take (j + 1)).map quoteL) [32] = if (l.take j).map quoteL = [] then quoteL (l.getD j []) else Lib.join ((l.take j).map quoteL) [32] ++ [32] ++ quoteL (l.getD j [])) := by show _ = _; rw [HTK.out, join_snoc]
        have HQ := quote_big (l.getD j []) (by omega) wr
        have hql := quoteL_len (l.getD j [])
        unfold str at hc HQ
        clear hrd hkw HTK
        cases j with
        | zero =>
          have HJ1 : Hid (Lib.join ((l.take (0 + 1)).map quoteL) [32] = quoteL (l.getD 0 [])) := by show _ = _; rw [HJN.out]; simp
          have hem : Lib.join ((l.take 0).map quoteL) [32] = [] := rfl
          rw [hem]
          rw [Nat.add_zero] at hc
          clear HJN hjl hem
          generalize l.getD 0 [] = x at *
          generalize quoteL x = qx at *
          have hcat := cat2 [] qx
          go_wp2_with (go_at_call 9; refine HQ.mono ?_; rintro e w8 ⟨rfl, hB8⟩)
          refine ⟨⟨0 + 1, by rw [HJ1.out], rfl, by omega, HB2.out.trans (hB8.mono HB2.out.size)⟩, by simp [intOf]; omega⟩
        | succ j =>
          have HJ1 : Hid (Lib.join ((l.take (j + 1 + 1)).map quoteL) [32] = Lib.join ((l.take (j + 1)).map quoteL) [32] ++ [32] ++ quoteL (l.getD (j + 1) [])) := by
            show _ = _
            rw [HJN.out, if_neg]
            intro h
            have := congrArg List.length h
            simp only [List.length_map, List.length_take, List.length_nil] at this
            have h5 := HN0.out
            omega
          clear HJN
          generalize l.getD (j + 1) [] = x at *
          generalize quoteL x = qx at *
          generalize Lib.join ((l.take (j + 1)).map quoteL) [32] = lj at *
          have hcat1 := cat2 lj [32]
          have hcat := cat2 (lj ++ [32]) qx
          go_wp2_with (go_at_call 9; refine HQ.mono ?_; rintro e w8 ⟨rfl, hB8⟩)
          refine ⟨⟨j + 1 + 1, by rw [HJ1.out]; simp, by simp, by omega, HB2.out.trans (hB8.mono HB2.out.size)⟩, by simp [intOf]; omega⟩
      · have hje : j = k := by omega
        subst hje
        have hta : l.take j = l := List.take_of_length_le (by rw [HN0.out]; omega)
        rw [hta] at hjl
        rw [hta]
        have HLN : Hid (Ln (Lib.join (l.map quoteL) [32]) l) := quotes_ln l
        generalize Lib.join (l.map quoteL) [32] = ln at *
        clear hta
        by_cases h4 : 4096 < ln.length
        · have HWL2 := words_long ln h4 (by omega) wr
          go_wp2_with (first
            | (go_at_call 10; refine HWL2.mono ?_; rintro e w8 ⟨rfl, hw⟩; subst w8)
            | (go_at_call 7; refine (HN _ _).mono ?_; rintro e w7 ⟨rfl, hw⟩; subst w7))
          go_ret
          exact ⟨rfl, HB2.out⟩
        · have HWS := words_any ln (by omega) wr (HV.out _ HB2.out)
          unfold str at HWS
          go_wp2_with fail
          refine HWS.mono ?_
          rintro e w8 ⟨⟨h1, -⟩ | ⟨-, h2, -⟩ | ⟨-, ws, v, h2, -, hO, rfl⟩, hB8⟩
          · omega
          · exact absurd HLN.out (h2 _)
          · have hws := h2.uniq _ HLN.out
            subst hws
            obtain ⟨va, vc, rfl, -, -⟩ := row_shape hO
            have HST := sameTexts_any w8 _ _ ws ws hO.rd ((by rw [HN0.out]; exact HS.out : SRd w (.slice a ws.length c) ws).below (HB2.out.trans (hB8.mono HB2.out.size))) (by rw [HN0.out]; omega) (by rw [HN0.out]; omega)
            simp only [decide_true] at HST
            rw [HN0.out] at HST
            rw [HN0.out]
            have HB8 : Hid (Below w.heap.size w w8) := HB2.out.trans (hB8.mono HB2.out.size)
            clear hO hB8 HWS h2
            go_wp2_with (first
              | (go_at_call 11; refine HST.mono ?_; rintro e w9 ⟨rfl, hB9⟩)
              | (go_at_call 7; refine (HN _ _).mono ?_; rintro e w7 ⟨rfl, hw⟩; subst w7))
            go_ret
            exact ⟨rfl, HB8.out.trans (hB9.mono HB8.out.size)⟩
end Go.Proofs.YtbckogojnjmjcaaDoor
