/-
  RunMerges: the walk of the law.
-/
import Derived.Test.YtgonbicpehjogaaGreatDoorMe
namespace Go.Proofs.YtgonbicpehjogaaGreatDoor
open Go.RowKit
set_option linter.unusedVariables false

/-- Acts of the call's own whose data are those of others. -/
structure WgD (M B : Nat) (w : World) (v : Value) (l : List Ac) (ds : List Value) : Prop where
  len : ds.length = l.length
  row : w.ownsRow B 31 10 v l.length (mrow l ds)
  dat : ∀ i, i < l.length → Sl M w (ds.getD i undef) (aat l i).data
theorem WgD.nil (M B : Nat) (w : World) : WgD M B w (.slice none 0 0) [] [] := ⟨rfl, World.ownsRow_nil _ _ _ _, fun i hi => by simp at hi⟩
theorem WgD.next {M B : Nat} {w w' : World} {v v' d : Value} {l : List Ac} {ds : List Value} {x : Ac} (h : WgD M B w v l ds) (hB : Below M w w') (hd : Sl M w' d x.data) (hr : w'.ownsRow B 31 10 v' (l.length + 1) (mrow l ds ++ (x.cells d).toList)) : WgD M B w' v' (l ++ [x]) (ds ++ [d]) := by
  refine ⟨by simp [h.len], by rw [mrow_snoc h.len, List.length_append]; exact hr, fun i hi => ?_⟩
  rw [List.length_append, List.length_singleton] at hi
  by_cases e : i < l.length
  · rw [aat_left e, List.getD_eq_getElem?_getD, List.getElem?_append_left (by rw [h.len]; exact e), ← List.getD_eq_getElem?_getD]
    exact (h.dat i e).below hB
  · obtain rfl : i = l.length := by omega
    rw [aat_last, ← h.len]
    simpa using hd
theorem WgD.acts {M B N : Nat} {w : World} {a : Option Addr} {c : Nat} {l : List Ac} {ds : List Value} (h : WgD M B w (.slice a l.length c) l ds) (hM : M ≤ N) (hN : w.heap.size ≤ N) : ActsAt N w a l := by
  rcases Nat.eq_zero_or_pos l.length with e | e
  · exact .inl (List.length_eq_zero_iff.1 e)
  · obtain ⟨g, rfl, -, hg⟩ := row_ptr h.row e
    refine .inr ⟨g, 0, rfl, by omega, fun i hi => ⟨ds.getD i undef, ?_⟩⟩
    have key : ∀ j, j < 10 → w.cell? ⟨g, 0 + i * 10 + j, none⟩ = some (((aat l i).cells (ds.getD i undef)).getD j undef) := fun j hj => by
      rw [Nat.zero_add, (row_cell h.row (by omega)).1, mrow_get h.len hi hj]
    exact ⟨(h.dat i hi).mono hM, key 0 (by omega), key 1 (by omega), key 2 (by omega), key 3 (by omega), key 4 (by omega), key 5 (by omega), key 6 (by omega), key 7 (by omega), key 8 (by omega), key 9 (by omega)⟩
theorem sum_snoc {α : Type} (ls : List (List α)) (l : List α) : sumM (ls ++ [l]) = sumM ls + l.length := by
  induction ls with
  | nil => simp [sumM]
  | cons m ls ih => simp only [List.cons_append, sumM, ih]; omega
/-- What was counted, when it isn't too much. -/
def FA (ls : List (List Ac)) (i n : Nat) : Prop := n ≤ 1000 → sumM (ls.take i) ≤ n ∧ ∀ l ∈ ls.take i, ∀ x ∈ l, x.data.length ≤ 1000000000
def FB (ls : List (List Ac)) (i k n : Nat) : Prop := n ≤ 1000 → sumM (ls.take (i + 1)) ≤ n ∧ (∀ l ∈ ls.take i, ∀ x ∈ l, x.data.length ≤ 1000000000) ∧ ∀ x ∈ (lat ls i).take k, x.data.length ≤ 1000000000
theorem FB.start {ls : List (List Ac)} {i n : Nat} (h : FA ls i n) (hi : i < ls.length) : FB ls i 0 (n + min (lat ls i).length 1001) := fun hn => by
  obtain ⟨h1, h2⟩ := h (by omega)
  refine ⟨?_, h2, fun x hx => by simp at hx⟩
  rw [take_lat hi, sum_snoc]
  omega
theorem FB.step {ls : List (List Ac)} {i k n : Nat} (h : FB ls i k n) (hk : k < (lat ls i).length) : FB ls i (k + 1) (min (n + (aat (lat ls i) k).data.length / 100) 2000) := fun hn => by
  obtain ⟨h1, h2, h3⟩ := h (by omega)
  refine ⟨by omega, h2, fun x hx => ?_⟩
  rw [List.take_add_one, List.mem_append] at hx
  rcases hx with hx | hx
  · exact h3 x hx
  · rw [List.getElem?_eq_getElem hk] at hx
    have e : aat (lat ls i) k = (lat ls i)[k] := by unfold aat; rw [List.getD_eq_getElem?_getD, List.getElem?_eq_getElem hk]; rfl
    have hx' : x = (lat ls i)[k] := by simpa using hx
    rw [hx', ← e]
    omega
theorem FA.next {ls : List (List Ac)} {i k n : Nat} (h : FB ls i k n) (hi : i < ls.length) (hk : k = (lat ls i).length ∨ 1000 ≤ k) : FA ls (i + 1) n := fun hn => by
  obtain ⟨h1, h2, h3⟩ := h hn
  refine ⟨h1, fun l hl => ?_⟩
  rw [take_lat hi] at hl h1
  rw [sum_snoc] at h1
  rcases List.mem_append.1 hl with hl | hl
  · exact h2 l hl
  · rw [List.mem_singleton.1 hl]
    rw [List.take_of_length_le (by omega)] at h3
    exact h3
theorem lsAt_below {M : Nat} {w w' : World} {a : Option Addr} {ls : List (List Ac)} (h : LsAt M w (fun _ => True) a ls) (hB : Below w.heap.size w w') (hM : M ≤ w.heap.size) : LsAt M w' (fun _ => True) a ls :=
  h.out (X := fun _ => False) (Out.of_below hB) (hB.mono hM) (fun _ _ _ h => h) (fun _ _ _ => trivial)
theorem LsAt.up {M M' : Nat} {w : World} {ok : Nat → Prop} {a : Option Addr} {ls : List (List Ac)} (h : LsAt M w ok a ls) (hM : M ≤ M') : LsAt M' w ok a ls := by
  rcases h with h | ⟨b, off, h1, h2, h3, h4⟩
  · exact .inl h
  · refine .inr ⟨b, off, h1, h2, h3, fun i hi => ?_⟩
    obtain ⟨v, hv, a', c', e, g1, g2, g3⟩ := h4 i hi
    exact ⟨v, hv, a', c', e, g1, g2, g3.up hM⟩
theorem rounds_next {α : Type} (r : Nat) (ls : List (List α)) : roundsM (r + 1) ls = roundsM r ls ++ colM r ls := by
  unfold roundsM
  rw [List.range_succ, List.flatMap_append]
  simp
set_option maxRecDepth 100000 in
set_option maxHeartbeats 4000000 in
theorem merges_walk (a : Option Addr) (c : Nat) (ls : List (List Ac)) (w : World) (h : LsAt w.heap.size w (fun _ => True) a ls) (hn : ls.length ≤ 9223372036854775807) :
    Calls Tryz.prog 3 #[.slice a ls.length c] w fun e w' => e = .returned (.bool true) ∧ Below w.heap.size w w' := by
  have HL : Hid (LsAt w.heap.size w (fun _ => True) a ls) := h
  clear h
  go_enter Tryz.func3, Tryz.ntmps3
  go_wp2_with (go_at_call 4; refine (first_s w).mono ?_; rintro e w1 ⟨rfl, hB1⟩; have HB1 : Hid (Below w.heap.size w w1) := hB1; have HL1 : Hid (LsAt w.heap.size w1 (fun _ => True) a ls) := (lsAt_below HL.out hB1 (Nat.le_refl _)); have hs1 := hB1.size; clear hB1)
  go_loop [4, 5] (fun v4 v5 => ∃ i n : Nat, v5 = .int .i64 i ∧ v4 = .int .i64 n ∧ i ≤ ls.length ∧ i ≤ 21 ∧ n ≤ 3001 * (i + 1) ∧ Hid (FA ls i n)) (fun _ v => 22 - (intOf v).toNat)
  case atStart => exact ⟨0, 0, rfl, rfl, Nat.zero_le _, by omega, by omega, fun _ => ⟨by simp [sumM], fun l hl => by simp at hl⟩⟩
  case round =>
    obtain ⟨i, n, rfl, rfl, hi1, hi2, hn1, HF⟩ := hrel
    by_cases hlt : i < ls.length ∧ i ≤ 20
    · obtain ⟨hlt, hl20⟩ := hlt
      rcases HL1.out with h0 | ⟨b, off, rfl, hb, -, hL4⟩
      · rw [h0] at hlt; simp at hlt
      obtain ⟨v, hv, a', c', rfl, hc1, hc2, hA⟩ := hL4 i hlt
      have HST : Hid (FB ls i 0 (n + min (lat ls i).length 1001)) := FB.start HF.out hlt
      have HAA : Hid (ActsAt w.heap.size w1 a' (lat ls i)) := hA
      have HNX : Hid (∀ k n, FB ls i k n → k = (lat ls i).length ∨ 1000 ≤ k → FA ls (i + 1) n) := fun k n h hk => FA.next h hlt hk
      have HSP : Hid (∀ k n, FB ls i k n → k < (lat ls i).length → FB ls i (k + 1) (min (n + (aat (lat ls i) k).data.length / 100) 2000)) := fun k n h hk => FB.step h hk
      clear hL4 hA
      generalize hlk : lat ls i = lk at *
      go_wp2
      go_loop [4, 6] (fun v4 v6 => ∃ k m : Nat, v6 = .int .i64 k ∧ v4 = .int .i64 m ∧ k ≤ lk.length ∧ k ≤ 1000 ∧ m ≤ 3001 * (i + 2) ∧ Hid (FB ls i k m)) (fun _ v => 1000 - (intOf v).toNat)
      case atStart => exact ⟨0, n + min lk.length 1001, rfl, by congr 1; omega, Nat.zero_le _, by omega, by omega, HST.out⟩
      case round =>
        obtain ⟨k, m, rfl, rfl, hk1, hk2, hm1, HFB⟩ := hrel
        by_cases hlk1 : k < lk.length
        · by_cases hlk2 : k < 1000
          · rcases HAA.out with h0 | ⟨b', off', rfl, hb', hA2⟩
            · rw [h0] at hlk1; simp at hlk1
            obtain ⟨d, hd⟩ := hA2 k hlk1
            have c2 := hd.c2
            obtain ⟨ad, cd, rfl, hd1, hd2, -⟩ := hd.dat
            have HNS : Hid (FB ls i (k + 1) (min (m + (aat lk k).data.length / 100) 2000)) := HSP.out k m HFB.out hlk1
            unfold maxLen at hd2
            generalize (aat lk k).data.length = dl at *
            clear hd hA2
            go_wp2
            go_round
            case rel => exact ⟨k + 1, min (m + dl / 100) 2000, by go_num, by congr 1; omega, by omega, by omega, by omega, HNS.out⟩
            case measure => simp [intOf]; omega
          · have HNN : Hid (FA ls (i + 1) m) := HNX.out k m HFB.out (.inr (by omega))
            have q1 : decide ((k : Int) < 1000) = false := by simp; omega
            go_wp2
            go_round
            case rel => exact ⟨i + 1, m, by go_num, rfl, by omega, by omega, by omega, HNN.out⟩
            case measure => simp [intOf]; omega
        · have HNN : Hid (FA ls (i + 1) m) := HNX.out k m HFB.out (.inl (by omega))
          have hke : k = lk.length := by omega
          go_wp2
          go_round
          case rel => exact ⟨i + 1, m, by go_num, rfl, by omega, by omega, by omega, HNN.out⟩
          case measure => simp [intOf]; omega
    · have hEnd : i = ls.length ∨ (i = 21 ∧ 21 ≤ ls.length) := by omega
      by_cases hbig : 20 < ls.length
      · rcases (by omega : i = ls.length ∨ i < ls.length) with e | e
        · go_wp2
          go_ret
          exact ⟨rfl, HB1.out⟩
        · have q1 : decide ((i : Int) ≤ 20) = false := by simp; omega
          go_wp2
          go_ret
          exact ⟨rfl, HB1.out⟩
      · have hie : i = ls.length := by omega
        subst hie
        by_cases hn2 : 1000 < n
        · go_wp2
          go_ret
          exact ⟨rfl, HB1.out⟩
        · obtain ⟨f1, f2⟩ := HF.out (by omega)
          rw [List.take_length] at f1 f2
          have HS : Hid (sumM ls ≤ 1000) := Nat.le_trans f1 (by omega)
          have HCA := merge_any a c ls w1 (HL1.out.up hs1) HS.out (by omega) f2
          have hls : ls.length ≤ 20 := by omega
          have HLE : Hid (∀ l ∈ ls, l.length ≤ 1000) := fun l hl => Nat.le_trans (len_le_sum hl) HS.out
          clear f1 f2 HF hEnd hbig hlt hi1 hi2 hn1 hn
          go_wp2_with (go_at_call 5; refine HCA.mono ?_; rintro e w2 ⟨v, r, ds, rfl, hr, hM, hB2⟩; rw [← rounds_all (n := 1000) hr HLE.out] at hM; have HM : Hid (MgD w1.heap.size w2 v (roundsM 1000 ls) ds) := hM; obtain ⟨am, cm, rfl, -, -⟩ := row_shape hM.row; have HL2 : Hid (LsAt w.heap.size w2 (fun _ => True) a ls) := (lsAt_below HL1.out hB2 hs1); have hs2 := hB2.size; have HB2 : Hid (Below w.heap.size w w2) := (HB1.out.trans (hB2.mono hs1)); clear hr hM hB2)
          clear HCA
          generalize hG1 : (roundsM 1000 ls).length = gl at *
          have HG1 : Hid ((roundsM 1000 ls).length = gl) := hG1
          clear hG1
          go_loopw [8, 9] (fun v8 v9 wr => ∃ (k : Nat) (ds' : List Value), v9 = .int .i64 k ∧ k ≤ 1000 ∧ Hid (WgD w.heap.size w2.heap.size wr v8 (roundsM k ls) ds') ∧ Hid (Below w2.heap.size w2 wr)) (fun _ v _ => 1000 - (intOf v).toNat)
          case atStart => exact ⟨0, [], rfl, Nat.zero_le _, WgD.nil _ _ _, Below.refl _ _⟩
          case round =>
            obtain ⟨k, ds', rfl, hk, HW, HB⟩ := hrel
            have hsr : w2.heap.size ≤ wr.heap.size := HB.out.size
            obtain ⟨bm, cbm, rfl, -, -⟩ := row_shape HW.out.row
            by_cases hk1 : k < 1000
            · have hRL : (roundsM k ls).length ≤ 1000 := by have := sum_rounds ls k; have := HS.out; omega
              have HRN : Hid (roundsM (k + 1) ls = roundsM k ls ++ colM k ls) := rounds_next k ls
              have HRT : Hid (∀ i, (roundsM k ls ++ colM k (ls.take i)).length ≤ 1000) := (by
                intro i
                have h1 := col_take_le k i ls
                have h2 := sum_rounds ls (k + 1)
                rw [HRN.out, List.length_append] at h2
                have h3 := HS.out
                rw [List.length_append]
                omega)
              generalize hG : roundsM k ls = G at *
              clear hG
              generalize wr = W3 at *
              go_wp2
              go_loopw [8, 10] (fun v8 v10 wx => ∃ (i : Nat) (ds' : List Value), v10 = .int .i64 i ∧ i ≤ ls.length ∧ Hid (WgD w.heap.size w2.heap.size wx v8 (G ++ colM k (ls.take i)) ds') ∧ Hid (Below w2.heap.size w2 wx)) (fun _ v _ => ls.length - (intOf v).toNat)
              case atStart => exact ⟨0, ds', rfl, Nat.zero_le _, by show WgD _ _ _ _ (G ++ []) _; rw [List.append_nil]; exact HW.out, HB.out⟩
              case round =>
                rename_i hrel
                obtain ⟨i, ds2, rfl, hi, HX, HBx⟩ := hrel
                have hsx : w2.heap.size ≤ wr.heap.size := HBx.out.size
                obtain ⟨xm, cxm, rfl, -, -⟩ := row_shape HX.out.row
                by_cases hi1 : i < ls.length
                · have HLx : Hid (LsAt w.heap.size wr (fun _ => True) a ls) := lsAt_below HL2.out HBx.out (by omega)
                  rcases HLx.out with h0 | ⟨b, off, rfl, hb, -, hL4⟩
                  · rw [h0] at hi1; simp at hi1
                  obtain ⟨v, hv, a', c', rfl, hc1, hc2, hA⟩ := hL4 i hi1
                  have HTK : Hid (colM k (ls.take (i + 1)) = colM k (ls.take i) ++ ((lat ls i)[k]?).toList) := (by show _ = _; rw [take_lat hi1, col_snoc])
                  have hgm := HRT.out i
                  clear hL4
                  generalize hlk : lat ls i = lk at *
                  clear hlk
                  obtain ⟨GM, hGM⟩ : ∃ GM, GM = G ++ colM k (ls.take i) := ⟨_, rfl⟩
                  have HGM : Hid (G ++ colM k (ls.take i) = GM) := hGM.symm
                  rw [← hGM] at HX hgm ⊢
                  have HXR : Hid (wr.ownsRow w2.heap.size 31 10 (.slice xm GM.length cxm) GM.length (mrow GM ds2)) := HX.out.row
                  clear hGM
                  generalize hn : GM.length = m at *
                  have Hm : Hid (GM.length = m) := hn
                  clear hn
                  by_cases hk2 : k < lk.length
                  · rcases hA with h0 | ⟨b', off', rfl, hb', hA2⟩
                    · rw [h0] at hk2; simp at hk2
                    obtain ⟨d, hd, k0, k1, k2, k3, k4, k5, k6, k7, k8, k9⟩ := hA2 k hk2
                    have HDT : Hid (Sl w.heap.size wr d (aat lk k).data) := hd
                    have hol : d.oneCell' = true := by obtain ⟨_, _, rfl, -, -⟩ := hd; rfl
                    have HTK2 : Hid (colM k (ls.take (i + 1)) = colM k (ls.take i) ++ [aat lk k]) := (by
                      have h1 := HTK.out
                      rw [List.getElem?_eq_getElem hk2] at h1
                      have e : aat lk k = lk[k] := by unfold aat; rw [List.getD_eq_getElem?_getD, List.getElem?_eq_getElem hk2]; rfl
                      rw [e]; exact h1)
                    generalize aat lk k = x at *
                    obtain ⟨xkind, xn, xdata, xid, xop, xcl, xsq, xkey, xval, xold⟩ := x
                    simp only at k0 k1 k2 k3 k4 k5 k6 k7 k8 k9
                    clear hA2 hd HTK
                    go_wp2_with (at_builtin; refine wpList_app tyA rfl _ _ rfl w2.heap.size (.slice xm m cxm) m (mrow GM ds2) ⟨wr.heap.size, 0, none⟩ 1 1 [.int .i64 xkind, .int .i64 xn, d, .int .i64 xid, .int .i64 xop, .int .i64 xcl, .int .i64 xsq, .string xkey, .string xval, .string xold] rfl (World.ownsRow.alloc HXR.out _) rfl rfl (news_at wr #[.int .i64 xkind, .int .i64 xn, d, .int .i64 xid, .int .i64 xop, .int .i64 xcl, .int .i64 xsq, .string xkey, .string xval, .string xold] 31) (by intro u hu; simp only [List.mem_cons, List.not_mem_nil, or_false] at hu; rcases hu with rfl | rfl | rfl | rfl | rfl | rfl | rfl | rfl | rfl | rfl <;> first | rfl | exact hol) (by omega) (by simp; omega) ?_; intro v6 w6 r1 r2 r3; have HA6 : Hid (w6.ownsRow w2.heap.size 31 10 v6 (m + 1) (mrow GM ds2 ++ [.int .i64 xkind, .int .i64 xn, d, .int .i64 xid, .int .i64 xop, .int .i64 xcl, .int .i64 xsq, .string xkey, .string xval, .string xold])) := r1; have HG6 : Hid (Below w2.heap.size wr w6) := ((out_app (Below.refl _ _) r2).below hsx (fun g hg => (row_type HXR.out hg).1)); clear r1 r2 r3)
                    have S1 := HX.out.next (x := ⟨xkind, xn, xdata, xid, xop, xcl, xsq, xkey, xval, xold⟩) (HG6.out.mono (by omega)) (HDT.out.below (HG6.out.mono (by omega))) (by rw [Hm.out]; exact HA6.out)
                    rw [← HGM.out, List.append_assoc, ← HTK2.out] at S1
                    exact ⟨⟨i + 1, by simp, by omega, ⟨_, S1⟩, HBx.out.trans HG6.out⟩, by simp [intOf]; omega⟩
                  · have HTK2 : Hid (colM k (ls.take (i + 1)) = colM k (ls.take i)) := (by
                      have h1 := HTK.out
                      rw [List.getElem?_eq_none (by omega)] at h1
                      show _ = _
                      simpa using h1)
                    clear hA
                    go_wp2
                    go_roundw
                    case rel =>
                      refine ⟨i + 1, ds2, by go_num, by omega, ?_, HBx.out⟩
                      rw [HTK2.out, HGM.out]
                      exact HX.out
                    case measure => simp [intOf]; omega
                · have hie : i = ls.length := by omega
                  rw [hie, List.take_length, ← HRN.out] at HX ⊢
                  generalize (roundsM (k + 1) ls).length = xl at *
                  clear hie
                  go_wp2
                  refine ⟨⟨k + 1, ds2, by go_num, by omega, HX.out, HBx.out⟩, by simp [intOf]; omega⟩
            · have hke : k = 1000 := by omega
              subst hke
              rw [HG1.out]
              have hgl : gl ≤ 1000 := by rw [← HG1.out]; have := sum_rounds ls 1000; have := HS.out; omega
              have HKP := kept_any (roundsM 1000 ls) am bm cm cbm wr (by rw [HG1.out]; omega) (((by have h1 := HM.out; rw [← HG1.out] at h1; exact h1.acts (Nat.le_refl _) : ActsAt w2.heap.size w2 am (roundsM 1000 ls)).below HB.out).up hsr) (HW.out.acts (by omega) (Nat.le_refl _))
              rw [HG1.out] at HKP
              have HF : Hid (Below w.heap.size w wr) := HB2.out.trans (HB.out.mono (by omega))
              clear HW
              go_wp2_with (go_at_call 6; refine HKP.mono ?_; rintro e w9 ⟨rfl, n9, rfl⟩)
              go_ret
              exact ⟨rfl, HF.out.trans ⟨rfl, rfl, rfl, Nat.le_refl _, fun _ _ => rfl⟩⟩
end Go.Proofs.YtgonbicpehjogaaGreatDoor
