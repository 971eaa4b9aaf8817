/-
  The program's Merge.
-/
import Derived.Test.YtgonbicpehjogaaGreatDoorMb
namespace Go.Proofs.YtgonbicpehjogaaGreatDoor
open Go.RowKit
set_option linter.unusedVariables false

def lenV : Value → Nat
  | .slice _ n _ => n
  | _ => 0
set_option maxRecDepth 100000 in
set_option maxHeartbeats 4000000 in
theorem merge_any (a0 : Option Addr) (c0 : Nat) (ls : List (List Ac)) (w : World) (h : LsAt w.heap.size w (fun _ => True) a0 ls) (hs : sumM ls ≤ 1000) (hn : ls.length ≤ 1000) (hd : ∀ l ∈ ls, ∀ x ∈ l, x.data.length ≤ 1000000000) : Calls Tryz.prog 5 #[.slice a0 ls.length c0] w fun e w' => ∃ v r ds, e = .returned v ∧ restN r ls = [] ∧ MgD w.heap.size w' v (roundsM r ls) ds ∧ Below w.heap.size w w' := by
  have HS : Hid (sumM ls ≤ 1000) := hs
  have HN : Hid (ls.length ≤ 1000) := hn
  have HD : Hid (∀ l ∈ ls, ∀ x ∈ l, x.data.length ≤ 1000000000) := hd
  have HL : Hid (LsAt w.heap.size w (fun _ => True) a0 ls) := h
  clear h hs hn hd
  go_enter Tryz.func5, Tryz.ntmps5
  go_wp2_with fail
  go_loopw [0, 3] (fun v0 v3 wr => ∃ (r : Nat) (a : Option Addr) (c : Nat) (ds : List Value), v0 = .slice a (restN r ls).length c ∧ Hid (LsAt w.heap.size wr (fun b => v3.ownBlock ≠ some b) a (restN r ls)) ∧ Hid (MgD w.heap.size wr v3 (roundsM r ls) ds) ∧ Hid (Below w.heap.size w wr)) (fun v0 v3 _ => 2 * (1000 - lenV v3) + (if lenV v0 = 0 then 0 else 1))
  case atStart =>
    refine ⟨0, a0, c0, [], rfl, ?_, MgD.nil _ _, Below.refl _ _⟩
    exact HL.out.out (X := fun _ => False) (Out.refl _ _) (Below.refl _ _) (fun _ _ _ h => h) (fun b _ _ => by simp [Value.ownBlock])
  case round =>
    obtain ⟨r, a, c, ds, rfl, HLr, HM, HB⟩ := hrel
    have hT := sum_rounds ls r
    have hLen := rest_len_le r ls
    obtain ⟨am, cm, rfl, hm1, hm2⟩ := row_shape HM.out.row
    by_cases hz : (restN r ls).length = 0
    · have HZ : Hid (restN r ls = []) := List.length_eq_zero_iff.1 hz
      clear hT hLen hm1 hm2
      rw [hz]
      clear hz
      go_wp2
      go_ret
      exact ⟨_, r, ds, rfl, HZ.out, HM.out, HB.out⟩
    · have hpos : 0 < (restN r ls).length := by omega
      have HT : Hid ((roundsM r ls).length + sumM (restN r ls) = sumM ls) := hT
      have HC : Hid (colM 0 (restN r ls) = colM r ls) := (by show _ = _; rw [col_restN, Nat.zero_add])
      have HSC : Hid ((colM 0 (restN r ls)).length + sumM (restM (restN r ls)) = sumM (restN r ls)) := sum_col _
      have HR1 : Hid (roundsM (r + 1) ls = roundsM r ls ++ colM 0 (restN r ls)) := rounds_succ r ls
      have HR2 : Hid (restN (r + 1) ls = restM (restN r ls)) := rfl
      have HDr : Hid (∀ l ∈ restN r ls, ∀ x ∈ l, x.data.length ≤ 1000000000) := (by
        intro l hl x hx
        obtain ⟨m, hm, h1⟩ := rest_mem hl
        exact HD.out m hm x (h1 x hx))
      have HGO : Hid (∀ l ∈ restN r ls, 0 < l.length → 0 < (colM 0 (restN r ls)).length) := (by
        intro l hl hp
        obtain ⟨x, hx⟩ : ∃ x, l[0]? = some x := ⟨l[0], List.getElem?_eq_getElem hp⟩
        exact List.length_pos_of_mem (List.mem_filterMap.2 ⟨l, hl, hx⟩))
      generalize hL : restN r ls = L at *
      generalize hG : roundsM r ls = G at *
      have HG : Hid (G.length ≤ 1000 ∧ G.length + (colM 0 L).length ≤ 1000) := (by have := HS.out; have := HT.out; have := HSC.out; exact ⟨by omega, by omega⟩)
      clear hL hG hT hm1 hm2
      have hgl := HG.out.1
      have hLen2 : L.length ≤ 1000 := Nat.le_trans hLen HN.out
      clear hLen
      have hwr : w.heap.size ≤ wr.heap.size := HB.out.size
      go_wp2
      generalize wr = W1 at *
      go_loopw [3, 4, 12] (fun v3 v4 vi wx => ∃ (k : Nat) (ds' xs' : List Value), vi = .int .i64 k ∧ k ≤ L.length ∧ Hid (MgD w.heap.size wx v3 (G ++ colM 0 (L.take k)) ds') ∧ Hid (Rst w.heap.size W1.heap.size wx v4 (restM (L.take k)) xs') ∧ Hid (LsAt w.heap.size wx (fun b => v3.ownBlock ≠ some b ∧ b < W1.heap.size) a L) ∧ Hid (Below w.heap.size w wx) ∧ W1.heap.size ≤ wx.heap.size) (fun _ _ i _ => L.length - (intOf i).toNat)
      case atStart =>
        refine ⟨0, ds, [], rfl, Nat.zero_le _, ?_, Rst.nil _ _ _, ?_, HB.out, Nat.le_refl _⟩
        · show MgD _ _ _ (G ++ []) _
          rw [List.append_nil]
          exact HM.out
        · exact HLr.out.out (X := fun _ => False) (Out.refl _ _) (Below.refl _ _) (fun _ _ _ h => h) (fun b hb h => ⟨h, hb⟩)
      case round =>
        obtain ⟨k, ds', xs', rfl, hk, HMk, HRk, HLk, HBk, hsz⟩ := hrel
        have hwx : w.heap.size ≤ wr.heap.size := HBk.out.size
        by_cases hlt : k < L.length
        · rcases HLk.out with h0 | ⟨b, off, rfl, hb, ⟨hb3, hb4⟩, hL4⟩
          · rw [h0] at hlt; simp at hlt
          obtain ⟨v, hv, a', c', rfl, hc1, hc2, hA⟩ := hL4 k hlt
          have hmem := lat_mem hlt
          have hTK := take_lat hlt
          have HE1 : Hid (colM 0 (L.take (k + 1)) = colM 0 (L.take k) ++ ((lat L k)[0]?).toList) := by show _ = _; rw [hTK, col_snoc]
          have HE2 : Hid (restM (L.take (k + 1)) = restM (L.take k) ++ (if 0 < (lat L k).length then [(lat L k).drop 1] else [])) := by show _ = _; rw [hTK, rest_snoc]
          have HCL : Hid ((colM 0 (L.take k)).length ≤ (colM 0 L).length) := col_take_le _ _ _
          have HDk : Hid (∀ x ∈ lat L k, x.data.length ≤ 1000000000) := HDr.out _ hmem
          have hRl : (restM (L.take k)).length ≤ 1000 := by
            unfold restM
            rw [List.length_map]
            have h1 := List.length_filter_le (fun l : List Ac => decide (0 < l.length)) (L.take k)
            rw [List.length_take] at h1
            omega
          clear hmem hTK hL4
          generalize hlk : lat L k = lk at *
          have HLK : Hid (lat L k = lk) := hlk
          clear hlk
          obtain ⟨bm, cbm, rfl, hm1, hm2⟩ := row_shape HMk.out.row
          obtain ⟨br, cbr, rfl, hr1, hr2⟩ := row_shape HRk.out.1
          by_cases hz2 : lk.length = 0
          · have hnil : lk = [] := List.length_eq_zero_iff.1 hz2
            subst hnil
            clear hb3 hm1 hm2 hr1 hr2 hA
            generalize (G ++ colM 0 (L.take k)).length = n at *
            generalize (restM (L.take k)).length = m at *
            simp only [List.length_nil] at hv hc1
            go_wp2
            go_roundw
            case rel =>
              refine ⟨k + 1, ds', xs', by go_num, by omega, ?_, ?_, HLk.out, HBk.out, hsz⟩
              · have h1 := HE1.out; simp only [List.getElem?_nil, Option.toList_none, List.append_nil] at h1; rw [h1]; exact HMk.out
              · have h1 := HE2.out; simp only [List.length_nil, Nat.lt_irrefl, if_false, List.append_nil] at h1; rw [h1]; exact HRk.out
            case measure => simp [intOf]; omega
          · have hz3 : 0 < lk.length := by omega
            rcases hA with h | ⟨b', off', rfl, hb', hA2⟩
            · rw [h] at hz3; simp at hz3
            have HDROP : Hid (ActsAt w.heap.size wr (some ⟨b', off' + 10, none⟩) (lk.drop 1)) := ActsAt.drop (.inr ⟨b', off', rfl, hb', hA2⟩)
            obtain ⟨d, hd, k0, k1, k2, k3, k4, k5, k6, k7, k8, k9⟩ := hA2 0 hz3
            simp only [Nat.zero_mul, Nat.add_zero] at k0 k1 k2 k3 k4 k5 k6 k7 k8 k9
            have hx0 : lk[0]? = some (aat lk 0) := by unfold aat; rw [List.getD_eq_getElem?_getD, List.getElem?_eq_getElem hz3]; rfl
            have hxd := HDk.out (aat lk 0) (List.mem_of_getElem? hx0)
            have HF1 : Hid (colM 0 (L.take (k + 1)) = colM 0 (L.take k) ++ [aat lk 0]) := by have := HE1.out; rw [hx0] at this; exact this
            have HF2 : Hid (restM (L.take (k + 1)) = restM (L.take k) ++ [lk.drop 1]) := by have := HE2.out; rw [if_pos hz3] at this; exact this
            have hdl : (lk.drop 1).length = lk.length - 1 := List.length_drop
            have HDL : Hid ((lk.drop 1).length = lk.length - 1) := hdl
            have HCA := copied_any (aat lk 0) d w.heap.size wr hd hwx hxd
            have hgm : (G ++ colM 0 (L.take k)).length ≤ 1000 := by rw [List.length_append]; have := HG.out.2; have := HCL.out; omega
            unfold Ac.cells at HCA
            generalize aat lk 0 = x at *
            obtain ⟨xkind, xn, xdata, xid, xop, xcl, xsq, xkey, xval, xold⟩ := x
            simp only at k0 k1 k2 k3 k4 k5 k6 k7 k8 k9 HCA
            obtain ⟨GM, hGM⟩ : ∃ GM, GM = G ++ colM 0 (L.take k) := ⟨_, rfl⟩
            have HGM : Hid (G ++ colM 0 (L.take k) = GM) := hGM.symm
            rw [← hGM] at HMk hm1 hgm HLk hb3 ⊢
            obtain ⟨RM, hRM⟩ : ∃ RM, RM = restM (L.take k) := ⟨_, rfl⟩
            have HRM : Hid (restM (L.take k) = RM) := hRM.symm
            rw [← hRM] at HRk hr1 hRl ⊢
            generalize hn : GM.length = n at *
            generalize hm : RM.length = m at *
            have Hn : Hid (GM.length = n) := hn
            have Hm : Hid (RM.length = m) := hm
            clear hGM hRM hn hm hA2 hd hx0 hxd hdl HE1 HE2
            have HMR : Hid (wr.ownsRow w.heap.size 31 10 (.slice bm n cbm) n (mrow GM ds')) := by have := HMk.out.row; rw [Hn.out] at this; exact this
            have HRR : Hid (wr.ownsRow W1.heap.size 24 1 (.slice br m cbr) m xs') := by have := HRk.out.1; rw [Hm.out] at this; exact this
            rcases (by omega : c' = 1 ∨ 2 ≤ c') with rfl | hc4
            all_goals (
              go_wp2_with (first
                | (go_at_call 9; refine HCA.mono ?_; rintro e w1 ⟨d', rfl, hO1, hB1⟩; have HO1 : Hid (Ow wr.heap.size w1 d' xdata) := hO1; have HB1 : Hid (Below wr.heap.size wr w1) := hB1; have hs1 := hB1.size; have hol : d'.oneCell' = true := (by obtain ⟨_, _, rfl, -, -⟩ := hO1.shape; rfl); have HM1 : Hid (w1.ownsRow w.heap.size 31 10 (.slice bm n cbm) n (mrow GM ds')) := row_below HMR.out hB1; clear hO1 hB1)
                | (at_builtin; refine wpList_app tyA rfl _ _ rfl w.heap.size (.slice bm n cbm) n (mrow GM ds') ⟨w1.heap.size, 0, none⟩ 1 1 [.int .i64 xkind, .int .i64 xn, d', .int .i64 xid, .int .i64 xop, .int .i64 xcl, .int .i64 xsq, .string xkey, .string xval, .string xold] rfl (World.ownsRow.alloc HM1.out _) rfl rfl (news_at w1 #[.int .i64 xkind, .int .i64 xn, d', .int .i64 xid, .int .i64 xop, .int .i64 xcl, .int .i64 xsq, .string xkey, .string xval, .string xold] 31) (by intro u hu; simp only [List.mem_cons, List.not_mem_nil, or_false] at hu; rcases hu with rfl | rfl | rfl | rfl | rfl | rfl | rfl | rfl | rfl | rfl <;> first | rfl | exact hol) (by omega) (by simp; omega) ?_; intro v6 w6 r1 r2 r3; have HA6 : Hid (w6.ownsRow w.heap.size 31 10 v6 (n + 1) (mrow GM ds' ++ [.int .i64 xkind, .int .i64 xn, d', .int .i64 xid, .int .i64 xop, .int .i64 xcl, .int .i64 xsq, .string xkey, .string xval, .string xold])) := r1; have HG6 : Hid ((w1.alloc _).grownBy w6 _) := r2; have HK6 : Hid (v6.ownBlock = _ ∨ v6.ownBlock = some (w1.alloc _).heap.size) := r3; have O6 : Hid (Out (fun g => (Value.slice bm n cbm).ownBlock = some g) wr w6) := out_app HB1.out r2; have hs6 := r2.size; rw [World.size_alloc] at hs6; have HR6 : Hid (w6.ownsRow W1.heap.size 24 1 (.slice br m cbr) m xs') := row_apart HRR.out O6.out (ofT_row HMR.out) (by decide); clear r1 r2 r3)
                | (at_builtin; refine wpList_app tyL rfl _ _ rfl W1.heap.size (.slice br m cbr) m xs' ⟨w6.heap.size, 0, none⟩ 1 1 [.slice (some ⟨b', off' + 10, none⟩) (lk.length - 1) (c' - 1)] rfl (World.ownsRow.alloc HR6.out _) rfl rfl (news_at w6 #[.slice (some ⟨b', off' + 10, none⟩) (lk.length - 1) (c' - 1)] 24) (fun u hu => by cases List.mem_singleton.1 hu; rfl) (by omega) (by simp; omega) ?_; intro v7 w7 r1 r2 r3; have HA7 : Hid (w7.ownsRow W1.heap.size 24 1 v7 (m + 1) (xs' ++ [.slice (some ⟨b', off' + 10, none⟩) (lk.length - 1) (c' - 1)])) := r1; have HG7 : Hid ((w6.alloc _).grownBy w7 _) := r2; clear r1 r2 r3)
                | (at_builtin; refine wpList_app tyL rfl _ _ rfl W1.heap.size (.slice br m cbr) m xs' ⟨w6.heap.size, 0, none⟩ 1 1 [.slice (some ⟨b', off', none⟩) 0 0] rfl (World.ownsRow.alloc HR6.out _) rfl rfl (news_at w6 #[.slice (some ⟨b', off', none⟩) 0 0] 24) (fun u hu => by cases List.mem_singleton.1 hu; rfl) (by omega) (by simp; omega) ?_; intro v7 w7 r1 r2 r3; have HA7 : Hid (w7.ownsRow W1.heap.size 24 1 v7 (m + 1) (xs' ++ [.slice (some ⟨b', off', none⟩) 0 0])) := r1; have HG7 : Hid ((w6.alloc _).grownBy w7 _) := r2; clear r1 r2 r3))
              obtain ⟨S1, S2, S3, S4⟩ := merge_step (x := ⟨xkind, xn, xdata, xid, xop, xcl, xsq, xkey, xval, xold⟩) (L' := lk.drop 1) HMk.out HRk.out HLk.out hwx hwr hsz HO1.out HB1.out (by rw [Hn.out]; exact HA6.out) HG6.out HK6.out (by rw [Hm.out]; exact HA7.out) HG7.out (fun W hW => by
                first
                | exact ⟨some ⟨b', off' + 10, none⟩, c' - 1, by rw [HDL.out], by rw [HDL.out]; omega, by omega, HDROP.out.below hW⟩
                | exact ⟨some ⟨b', off', none⟩, 0, by rw [HDL.out]; congr 1; omega, by rw [HDL.out]; omega, by omega, .inl (List.length_eq_zero_iff.1 (by rw [HDL.out]; omega))⟩)
              rw [← HGM.out, List.append_assoc, ← HF1.out] at S1
              rw [← HRM.out, ← HF2.out] at S2
              exact ⟨⟨k + 1, _, _, by simp, by omega, S1, S2, S3, HBk.out.trans S4, Nat.le_trans hsz S4.size⟩, by simp [intOf]; omega⟩)
        · have hke : k = L.length := by omega
          subst hke
          rw [List.take_length] at HMk HRk
          obtain ⟨bm, cbm, rfl, hm1, hm2⟩ := row_shape HMk.out.row
          obtain ⟨br, cbr, rfl, hr1, hr2⟩ := row_shape HRk.out.1
          have hgl2 : (G ++ colM 0 L).length ≤ 1000 := by rw [List.length_append]; exact HG.out.2
          have hsm : 0 < (restM L).length → 0 < (colM 0 L).length := (by
            intro hp
            obtain ⟨l, hl⟩ := List.exists_mem_of_length_pos hp
            obtain ⟨m, hm, rfl⟩ := List.mem_map.1 hl
            obtain ⟨h1, h2⟩ := List.mem_filter.1 hm
            exact HGO.out m h1 (by simpa using h2))
          have HSM : Hid (0 < (restM L).length → 0 < (colM 0 L).length) := hsm
          have HAL : Hid ((G ++ colM 0 L).length = G.length + (colM 0 L).length) := List.length_append
          have HLX : Hid (LsAt w.heap.size wr (fun b => (Value.slice bm (G ++ colM 0 L).length cbm).ownBlock ≠ some b) br (restM L)) := HRk.out.ls (ok := fun b => (Value.slice bm (G ++ colM 0 L).length cbm).ownBlock ≠ some b) (fun g hg hx => by
            obtain ⟨-, h1, cs, h2⟩ := row_type HRk.out.1 hg
            obtain ⟨-, h3, cs', h4⟩ := row_type HMk.out.row hx
            rw [h2] at h4
            simp at h4)
          rw [← HR1.out] at HMk HLX hgl2 HAL hm1 ⊢
          rw [← HR2.out] at HLX hr1 HSM HRk ⊢
          clear hsm hm1 hr1 hm2 hr2 HLr HLk HRk
          go_wp2
          refine ⟨⟨r + 1, br, cbr, ds', rfl, HLX.out, HMk.out, HBk.out⟩, ?_⟩
          have h1 := HAL.out
          have h2 := HSM.out
          simp only [lenV]
          have hz' : L.length ≠ 0 := hz
          by_cases h3 : (restN (r + 1) ls).length = 0
          · simp only [h3, hz', if_true, if_false]; omega
          · have := h2 (by omega)
            simp only [h3, hz', if_false]
            omega
end Go.Proofs.YtgonbicpehjogaaGreatDoor
