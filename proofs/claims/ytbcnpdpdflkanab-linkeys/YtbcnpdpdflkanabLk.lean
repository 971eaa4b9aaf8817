/-
  LinKeys.
-/
import Derived.Test.YtbcnpdpdflkanabPk
namespace Go.Proofs.Ytbcnpdpdflkanab
open Go.RowKit

theorem rows_apart {N N' τ τ' sz sz' n n' : Nat} {w : World} {v v' : Value} {xs xs' : List Value} (h : w.ownsRow N τ sz v n xs) (h' : w.ownsRow N' τ' sz' v' n' xs') (hne : τ ≠ τ') : ∀ g, v.ownBlock = some g → v'.ownBlock ≠ some g := by
  intro g hg hg'
  rcases h.2 with ⟨rfl, _⟩ | ⟨g1, _, cur, rfl, _, hb, _⟩
  · cases hg
  rcases h'.2 with ⟨rfl, _⟩ | ⟨g2, _, cur', rfl, _, hb', _⟩
  · cases hg'
  cases hg
  cases hg'
  rw [hb] at hb'
  simp at hb'
  exact hne hb'.2
def allK (h : List Lo) (ks : List Bs) (k : Nat) : Bool := (ks.take k).all fun q => (explain h q).isSome
theorem allK_succ {h : List Lo} {ks : List Bs} {k : Nat} (hk : k < ks.length) : allK h ks (k + 1) = (allK h ks k && (explain h (ks.getD k [])).isSome) := by
  unfold allK
  rw [List.take_add_one, List.getElem?_eq_getElem hk, List.all_append, List.getD_eq_getElem?_getD, List.getElem?_eq_getElem hk]
  simp
theorem allK_all {h : List Lo} {ks : List Bs} (hk : KeysOk h ks) : allK h ks ks.length = judged h := by
  unfold allK
  rw [List.take_length]
  cases hj : ks.all (fun q => (explain h q).isSome)
  · symm
    rw [List.all_eq_false] at hj
    obtain ⟨q, hq, hn⟩ := hj
    exact judged_not hk hq (by simpa using hn)
  · symm
    rw [List.all_eq_true] at hj
    exact judged_of hk hj

set_option maxRecDepth 100000 in
set_option maxHeartbeats 4000000 in
theorem keys_walk (w : World) (a : Option Addr) (cap : Nat) (h : List Lo) (hA : HAt w.heap.size w a h) (hin : ∀ o ∈ h, InO o) (hl : h.length ≤ maxLen) (_hc1 : h.length ≤ cap) (_hc2 : cap ≤ maxLen) :
    Calls Try.prog 4 #[.slice a h.length cap] w fun e w' => e = .returned (.bool true) ∧ Below w.heap.size w w' := by
  have HF := first_any
  have hok : ∀ o ∈ h, LoOk o := fun o ho => (hin o ho).ok
  have HFW : Hid (∀ w1, Below w.heap.size w w1 → Calls Try.prog 6 #[.slice a h.length cap] w1 (FewR h w1)) := fun w1 hB => few_any w.heap.size w1 a cap h (hA.below hB) hok hl
  have HCK : Hid (∀ w1, Below w.heap.size w w1 → Calls Try.prog 7 #[.slice a h.length cap] w1 fun e w' => e = .returned (.tuple #[.bool (checkE h), .int .i64 (valid h)]) ∧ Below w1.heap.size w1 w') := fun w1 hB => check_any w.heap.size w1 a cap h hB.size (hA.below hB) hok hl
  have hl' := hl
  unfold maxLen at hl'
  have HN := num_any
  go_enter Try.func4, Try.ntmps4
  go_wp2_with (first
    | (go_at_call 5; refine (HF _).mono ?_; rintro e w1 ⟨rfl, hB1⟩)
    | fail)
  refine (HFW.out _ hB1).mono ?_
  rintro e w2 ⟨t, n2, rfl, ht, rfl⟩
  have hB2 : Below w.heap.size w (w1.drewN n2) := ⟨hB1.os, hB1.tape, hB1.output, hB1.size, hB1.block⟩
  generalize w1.drewN n2 = w2 at *
  clear hB1
  cases t with
  | false =>
    go_wp2
    go_ret
    exact ⟨rfl, hB2⟩
  | true =>
    have h6 := ht rfl
    clear ht
    by_cases hv : valid h = 0
    · have HCK2 := HCK.out w2 hB2
      rw [hv] at HCK2
      have HV : Hid (valid h = 0) := hv
      have HCJ : Hid (checkE h = judged h) := by show _ = _; unfold checkE; simp [hv]
      clear hv
      generalize hce : checkE h = ce at *
      clear hce
      go_wp2_with fail
      refine HCK2.mono ?_
      rintro e w3 ⟨rfl, hB3⟩
      have hB3' : Below w.heap.size w w3 := hB2.trans (hB3.mono hB2.size)
      have HKE := keys_any w.heap.size w3 a cap h hB3'.size (hA.below hB3') hok (by omega)
      clear hB3 hB2 HCK2
      go_wp2_with (go_at_call 8; refine (HN _ _).mono ?_; rintro e w4 ⟨rfl, hw4⟩; rw [hw4]; clear hw4 w4)
      refine HKE.mono ?_
      rintro e w5 ⟨kv, ks, rfl, hKS, hrow, hB5⟩
      obtain ⟨ka, kc, hks, hk1, hk2⟩ := row_shape hrow
      subst hks
      have hB5' : Below w.heap.size w w5 := hB3'.trans (hB5.mono hB3'.size)
      have HKS : Hid (KeysOk h ks) := hKS
      have HROW : Hid (w5.ownsRow _ _ _ _ _ _) := hrow
      have hklen : ks.length ≤ 9223372036854775807 := by unfold maxLen at hk2; omega
      clear hKS hrow hk1 hk2 hB5 HKE hB3'
      go_wp2
      go_loopw [9, 8] (fun i av wr => ∃ (k : Nat), i = .int .i64 k ∧ k ≤ ks.length ∧ av = .bool (allK h ks k) ∧ Below w5.heap.size w5 wr) (fun i _ _ => ks.length - (intOf i).toNat)
      case atStart => exact ⟨0, rfl, by omega, rfl, Below.refl _ _⟩
      case round =>
        obtain ⟨k, rfl, hk, rfl, hB6⟩ := hrel
        by_cases hlt : k < ks.length
        · obtain ⟨kg, rfl, -, hkg⟩ := row_ptr HROW.out (by omega)
          have hck := (row_cell HROW.out (j := k) (by omega)).1
          rw [show (ks.map encStr).getD k undef = .string ⟨(ks.getD k []).toArray⟩ from by
            rw [List.getD_eq_getElem?_getD, List.getElem?_map, List.getElem?_eq_getElem hlt, List.getD_eq_getElem?_getD, List.getElem?_eq_getElem hlt]; rfl] at hck
          have hmem : ks.getD k [] ∈ ks := by rw [List.getD_eq_getElem?_getD, List.getElem?_eq_getElem hlt]; exact List.getElem_mem hlt
          have HMN : Hid (∃ i, i < h.length ∧ mine h (ks.getD k []) i = true) := (HKS.out.mem _).1 hmem
          have HAS : Hid (allK h ks (k + 1) = (allK h ks k && (explain h (ks.getD k [])).isSome)) := allK_succ hlt
          clear hmem
          generalize ks.getD k [] = q at *
          go_wp2
          go_loopw [12, 10, 11] (fun i ov nv wq => ∃ (m : Nat), i = .int .i64 m ∧ m ≤ h.length ∧ OOw w5.heap.size wq ov (oneL h q m) ∧ IOw w5.heap.size wq nv (atL h q m) ∧ Below w5.heap.size w5 wq) (fun i _ _ _ => h.length - (intOf i).toNat)
          case atStart => exact ⟨0, rfl, by omega, World.ownsRow_nil _ _ _ _, World.ownsRow_nil _ _ _ _, hB6⟩
          case round =>
            obtain ⟨m, rfl, hm, hO, hI, hB7⟩ := hrel
            have hz7 := hB7.size
            have hz5 := hB5'.size
            obtain ⟨oa, oc, hos, -, -⟩ := row_shape hO
            subst hos
            obtain ⟨na, nc, hns, -, -⟩ := row_shape hI
            subst hns
            have hol : (oneL h q m).length = (atL h q m).length := one_len h q m
            have hal : (atL h q m).length ≤ m := by
              unfold atL
              have := List.length_filter_le (fun i => hasKey q (oat h i)) (List.range m)
              simpa using this
            by_cases hmt : m < h.length
            · obtain ⟨b, off, rfl, hb, hcs⟩ := (hA.below (hB5'.trans (hB7.mono hz5))).at hmt
              have hkc := (hB7.cell (p := ⟨kg, k, none⟩) hkg).trans hck
              have h1s := oneL_succ h q m
              have h2s := atL_succ h q m
              unfold hasKey at h1s h2s
              have HO : Hid (OOw w5.heap.size wr (.slice oa (oneL h q m).length oc) (oneL h q m)) := hO
              have HI : Hid (IOw w5.heap.size wr (.slice na (atL h q m).length nc) (atL h q m)) := hI
              have HAP : Hid (∀ g, (Value.slice oa (oneL h q m).length oc).ownBlock = some g → (Value.slice na (atL h q m).length nc).ownBlock ≠ some g) := rows_apart hO hI (by decide)
              have HB7 : Hid (Below w5.heap.size w5 wr) := hB7
              generalize oat h m = x at *
              have H1S : Hid (oneL h q (m + 1) = _) := h1s
              have H2S : Hid (atL h q (m + 1) = _) := h2s
              obtain ⟨c0, c1, c2, c3, c4, c5, c6, c7, c8, c9⟩ := hcs
              unfold str at c3 c4 c5 c9
              have HOL : Hid ((oneL h q m).length = (atL h q m).length ∧ (atL h q m).length ≤ m) := ⟨hol, hal⟩
              have HHX : Hid (x.cells = #[.int .i64 x.cl, .int .i64 x.sq, .int .i64 x.kind, .string ⟨x.key.toArray⟩, .string ⟨x.val.toArray⟩, .string ⟨x.old.toArray⟩, .int .i64 x.call, .int .i64 x.back, .int .i64 x.rp.code, .string ⟨x.rp.val.toArray⟩]) := rfl
              clear hO hI h1s h2s hol hal hB7
              generalize (oneL h q m) = O1 at *
              generalize (atL h q m) = A1 at *
              by_cases hq : x.key = q
              · have hqb : (x.key == q) = true := by simpa using hq
                have HQ : Hid (x.key = q) := hq
                clear hq
                go_wp2
                go_quiet (fail)
                have hall : (wr.drewN nq).cell? ⟨b, off + m * 10, none⟩ = some (.int .i64 x.cl) ∧ (wr.drewN nq).cell? ⟨b, off + m * 10 + 1, none⟩ = some (.int .i64 x.sq) ∧ (wr.drewN nq).cell? ⟨b, off + m * 10 + 2, none⟩ = some (.int .i64 x.kind) ∧ (wr.drewN nq).cell? ⟨b, off + m * 10 + 3, none⟩ = some (.string ⟨x.key.toArray⟩) ∧ (wr.drewN nq).cell? ⟨b, off + m * 10 + 4, none⟩ = some (.string ⟨x.val.toArray⟩) ∧ (wr.drewN nq).cell? ⟨b, off + m * 10 + 5, none⟩ = some (.string ⟨x.old.toArray⟩) ∧
                  (wr.drewN nq).cell? ⟨b, off + m * 10 + 6, none⟩ = some (.int .i64 x.call) ∧ (wr.drewN nq).cell? ⟨b, off + m * 10 + 7, none⟩ = some (.int .i64 x.back) ∧ (wr.drewN nq).cell? ⟨b, off + m * 10 + 8, none⟩ = some (.int .i64 x.rp.code) ∧ (wr.drewN nq).cell? ⟨b, off + m * 10 + 9, none⟩ = some (.string ⟨x.rp.val.toArray⟩) := ⟨c0, c1, c2, c3, c4, c5, c6, c7, c8, c9⟩
                have HO2 : Hid (OOw w5.heap.size (wr.drewN nq) (.slice oa O1.length oc) O1) := HO.out
                have HI2 : Hid (IOw w5.heap.size (wr.drewN nq) (.slice na A1.length nc) A1) := HI.out
                have HB72 : Hid (Below w5.heap.size w5 (wr.drewN nq)) := ⟨HB7.out.os, HB7.out.tape, HB7.out.output, HB7.out.size, HB7.out.block⟩
                have hz72 : w5.heap.size ≤ (wr.drewN nq).heap.size := hz7
                generalize wr.drewN nq = wd at *
                clear c0 c1 c2 c3 c4 c5 c6 c7 c8 c9 HO HI hkc HB7
                obtain ⟨d0, d1, d2, d3, d4, d5, d6, d7, d8, d9⟩ := hall
                go_wp2_with (first
                  | (at_builtin; refine wpList_app tyO rfl _ _ rfl w5.heap.size _ O1.length _ ⟨wd.heap.size, 0, none⟩ 1 1 x.cells.toList rfl (World.ownsRow.alloc HO2.out _) rfl rfl (by rw [HHX.out]; exact news10 _ _ rfl _) (lo_one _) (by have := HOL.out; omega) (by simp; omega) ?_; intro v8 w8 p1 p2 p3; obtain ⟨s8, c8', hv8, -, -⟩ := row_shape p1; subst hv8; (have hI8 : IOw w5.heap.size w8 (.slice na A1.length nc) A1 := row_out (X := fun i => (Value.slice oa O1.length oc).ownBlock = some i) (World.ownsRow.alloc HI2.out _) (Out.grown p2 (fun j e => e)) (fun g hg e => HAP.out g e hg)); (have hB8 : Below w5.heap.size w5 w8 := (HB72.out.alloc hz72 _).grown p2 (by simp; omega) (fun g hg => (World.ownsRow.lt HO2.out g hg).1)); have hz8 := hB8.size; have HI8 : Hid (IOw _ w8 _ _) := hI8; have HB8 : Hid (Below _ _ w8) := hB8; have HP1 : Hid (w8.ownsRow _ _ _ _ _ _) := p1; clear p1 p2 p3 hI8 hB8)
                  | (at_builtin; refine wpList_app tyI rfl _ _ rfl w5.heap.size _ A1.length _ ⟨w8.heap.size, 0, none⟩ 1 1 [encI m] rfl (World.ownsRow.alloc HI8.out _) rfl rfl (news_at _ #[encI m] _) (by intro u hu; cases List.mem_singleton.1 hu; rfl) (by have := HOL.out; omega) (by simp; omega) ?_; intro v9 w9 p4 p5 p6; obtain ⟨s9, c9', hv9, -, -⟩ := row_shape p4; subst hv9))
                have hO9 : OOw w5.heap.size w9 (.slice s8 (O1.length + 1) c8') (O1 ++ [x]) := by
                  have h1 : w8.ownsRow w5.heap.size 33 10 (.slice s8 (O1.length + 1) c8') (O1.length + 1) _ := HP1.out
                  have h2 := rows_apart HI8.out h1 (by decide)
                  exact OOw.snoc (row_out (X := fun i => (Value.slice na A1.length nc).ownBlock = some i) (World.ownsRow.alloc h1 _) (Out.grown p5 (fun j e => e)) (fun g hg e => h2 g e hg))
                have hI9 : IOw w5.heap.size w9 (.slice s9 (A1.length + 1) c9') (A1 ++ [m]) := by unfold IOw; simpa using p4
                have hB9 : Below w5.heap.size w5 w9 := (HB8.out.alloc hz8 _).grown p5 (by simp; omega) (fun g hg => (World.ownsRow.lt HI8.out g hg).1)
                go_roundw
                case rel => exact ⟨m + 1, by simp, by omega, by rw [H1S.out, if_pos (by simp [HQ.out])]; exact hO9, by rw [H2S.out, if_pos (by simp [HQ.out])]; exact hI9, hB9⟩
                case measure => simp [intOf]; omega
              · have hqb : (x.key == q) = false := by simpa using hq
                have HQ : Hid (¬ x.key = q) := hq
                clear hq
                go_wp2
                go_quiet (fail)
                go_wp2
                go_roundw
                case rel => exact ⟨m + 1, by simp, by omega, by rw [H1S.out, if_neg (by simp [HQ.out])]; exact HO.out, by rw [H2S.out, if_neg (by simp [HQ.out])]; exact HI.out, ⟨HB7.out.os, HB7.out.tape, HB7.out.output, HB7.out.size, HB7.out.block⟩⟩
                case measure => simp [intOf]; omega
            · have : m = h.length := by omega
              subst this
              have hkc := (hB7.cell (p := ⟨kg, k, none⟩) hkg).trans hck
              have hO1k : ∀ o ∈ oneL h q h.length, LoOk o := fun o ho => by rw [one_filter] at ho; exact hok o (List.mem_filter.1 ho).1
              have HC1 := check_any _ _ oa oc (oneL h q h.length) (Nat.le_refl _) (OOw.hat hO (Nat.le_refl _)) hO1k (by unfold maxLen; omega)
              rw [one_valid HV.out, one_check HV.out HMN.out] at HC1
              have HE1 : Hid (∀ w8, Below wr.heap.size wr w8 → Calls Try.prog 11 #[.slice oa (oneL h q h.length).length oc, .string ⟨q.toArray⟩] w8 fun e w' => ∃ v, e = .returned (.tuple #[v, .bool (explain h q).isSome, .int .i64 0]) ∧ IOw w8.heap.size w' v ((explain (oneL h q h.length) q).getD []) ∧ Below w8.heap.size w8 w') := fun w8 h8 => by
                have := Explain_any _ _ oa oc (oneL h q h.length) q (Nat.le_refl _) (OOw.hat (row_below hO h8) (Nat.le_refl _)) hO1k (by unfold maxLen; omega)
                unfold explE at this
                rw [one_valid HV.out, if_pos rfl, one_same] at this
                exact this
              have HE2 : Hid (∀ w8, Below w5.heap.size w5 w8 → Calls Try.prog 11 #[.slice a h.length cap, .string ⟨q.toArray⟩] w8 fun e w' => ∃ v, e = .returned (.tuple #[v, .bool (explain h q).isSome, .int .i64 0]) ∧ IOw w8.heap.size w' v ((explain h q).getD []) ∧ Below w8.heap.size w8 w') := fun w8 h8 => by
                have hB := hB5'.trans (h8.mono hz5)
                have := Explain_any w.heap.size w8 a cap h q hB.size (hA.below hB) hok hl
                unfold explE at this
                rw [HV.out, if_pos rfl] at this
                exact this
              have HLE : Hid ((explain h q).getD [] = ((explain (oneL h q h.length) q).getD []).map fun j => (atL h q h.length).getD j 0) := by
                show _ = _
                rw [one_explain h q]
                cases explain (oneL h q h.length) q <;> rfl
              have HIN : Hid (∀ i ∈ (explain (oneL h q h.length) q).getD [], i < (atL h q h.length).length) := fun i hi => by
                cases he : explain (oneL h q h.length) q with
                | none => rw [he] at hi; cases hi
                | some l => rw [he] at hi; have := explain_in he i hi; rw [one_len] at this; exact this
              have HI : Hid (IOw w5.heap.size wr (.slice na (atL h q h.length).length nc) (atL h q h.length)) := hI
              have HB7 : Hid (Below w5.heap.size w5 wr) := hB7
              have hal2 : (atL h q h.length).length ≤ 600 := by omega
              clear hO hI hB7 hO1k hol hal
              generalize hAA : (explain (oneL h q h.length) q).getD [] = AA at *
              generalize hBB : (explain h q).getD [] = BB at *
              generalize hss : (explain h q).isSome = sb at *
              generalize atL h q h.length = AT at *
              generalize (oneL h q h.length).length = ol at *
              clear hAA hBB hss
              go_wp2_with fail
              refine HC1.mono ?_
              rintro e w8 ⟨rfl, hB8⟩
              have hkc8 := (hB8.cell (p := ⟨kg, k, none⟩) (show kg < _ by omega)).trans hkc
              go_wp2_with fail
              refine (HE1.out w8 hB8).mono ?_
              rintro e w9 ⟨v9, rfl, hI9, hB9⟩
              have hz8 := hB8.size
              have hkc9 := (hB9.cell (p := ⟨kg, k, none⟩) (show kg < _ by omega)).trans hkc8
              have hB89 : Below w5.heap.size w5 w9 := (HB7.out.trans (hB8.mono hz7)).trans (hB9.mono (by omega))
              go_wp2_with fail
              refine (HE2.out w9 hB89).mono ?_
              rintro e w10 ⟨v10, rfl, hI10, hB10⟩
              have hz9 := hB9.size
              have hBLl : BB.length = AA.length := by rw [HLE.out]; simp
              obtain ⟨xa, xc, hx9, hxl, hxm, hxr⟩ := (IOw.rd (N := w8.heap.size) (row_below hI9 hB10))
              subst hx9
              obtain ⟨ya, yc, hy10, hyl, hym, hyr⟩ := hI10.rd
              subst hy10
              obtain ⟨za, zc, hz10, hzl, hzm, hzr⟩ := (IOw.rd (N := w5.heap.size) (row_below HI.out ((hB8.trans (hB9.mono hz8)).trans (hB10.mono (by omega)))))
              cases hz10
              have HB10 : Hid (Below w5.heap.size w5 w10) := hB89.trans (hB10.mono (by omega))
              have HCEL : Hid (∀ j, j < AA.length → ∃ p r b1 o1 b2 o2 b3 o3, xa = some ⟨b1, o1, none⟩ ∧ na = some ⟨b2, o2, none⟩ ∧ ya = some ⟨b3, o3, none⟩ ∧ p < AT.length ∧ w10.cell? ⟨b1, o1 + j, none⟩ = some (.int .i64 ((p : Nat) : Int)) ∧ w10.cell? ⟨b2, o2 + p, none⟩ = some (.int .i64 ((r : Nat) : Int)) ∧ w10.cell? ⟨b3, o3 + j, none⟩ = some (.int .i64 (r : Int))) := fun j hj => by
                obtain ⟨b1, o1, rfl, f1⟩ := hxr.resolve_left (fun e => by rw [e] at hj; simp at hj)
                have hp : AA[j]?.getD 0 < AT.length := HIN.out _ (by rw [List.getElem?_eq_getElem hj]; exact List.getElem_mem hj)
                obtain ⟨b2, o2, rfl, f2⟩ := hzr.resolve_left (fun e => by rw [e] at hp; simp at hp)
                obtain ⟨b3, o3, rfl, f3⟩ := hyr.resolve_left (fun e => by rw [e] at hBLl; simp at hBLl; omega)
                refine ⟨AA[j]?.getD 0, AT[AA[j]?.getD 0]?.getD 0, b1, o1, b2, o2, b3, o3, rfl, rfl, rfl, hp, f1 j hj, f2 _ hp, ?_⟩
                rw [f3 j (by omega), HLE.out, List.getElem?_map, List.getElem?_eq_getElem hj]
                show some (encI (AT.getD AA[j] 0)) = _
                rw [List.getD_eq_getElem?_getD]
                rfl
              have hAAl : AA.length ≤ 9223372036854775807 := by unfold maxLen at hxm; omega
              have HAL2 : Hid (allK h ks (k + 1) = (allK h ks k && sb)) := HAS.out
              clear hI9 hI10 hB10 hB9 hB8 hxr hyr hzr hxl hxm hyl hym hzl hzm hkc8 hkc9 hkc HC1 HE1 HE2 HI HAS
              generalize allK h ks k = ak at *
              rw [hBLl]
              go_wp2_with (go_at_call 8; refine (HN _ _).mono ?_; rintro e w11 ⟨rfl, hw11⟩; rw [hw11]; clear hw11 w11)
              go_loopw [21] (fun i wq => ∃ (j n : Nat), i = .int .i64 j ∧ j ≤ AA.length ∧ wq = w10.drewN n) (fun i _ => AA.length - (intOf i).toNat)
              case atStart => exact ⟨0, 0, rfl, by omega, rfl⟩
              case round =>
                obtain ⟨j, nn, rfl, hj, rfl⟩ := hrel
                by_cases hjl : j < AA.length
                · obtain ⟨p, r, b1, o1, b2, o2, b3, o3, rfl, rfl, rfl, hp, f1, f2, f3⟩ := HCEL.out j hjl
                  have hp0 : ¬ ((p : Int) < 0) := by omega
                  have hp1 : ¬ ((AT.length : Int) ≤ (p : Int)) := by omega
                  have hp2 : ((p : Int) ≥ (AT.length : Int)) = False := by simp; omega
                  go_wp2
                  go_quiet (fail)
                  go_wp2
                  exact ⟨⟨j + 1, _, by simp, by omega, rfl⟩, by simp [intOf]; omega⟩
                · have hBf : Below w5.heap.size w5 (w10.drewN nn) := ⟨HB10.out.os, HB10.out.tape, HB10.out.output, HB10.out.size, HB10.out.block⟩
                  have hje : j = AA.length := by omega
                  subst hje
                  clear HCEL HIN HLE
                  cases ak
                  · go_wp2
                    go_roundw
                    case rel => exact ⟨k + 1, by simp, by omega, by rw [HAL2.out]; rfl, hBf⟩
                    case measure => simp [intOf]; omega
                  · go_wp2
                    go_roundw
                    case rel => exact ⟨k + 1, by simp, by omega, by rw [HAL2.out]; rfl, hBf⟩
                    case measure => simp [intOf]; omega
        · have : k = ks.length := by omega
          subst this
          have HAL : Hid (allK h ks ks.length = ce) := by show _ = _; rw [allK_all HKS.out, HCJ.out]
          generalize allK h ks ks.length = al at *
          have hal := HAL.out
          subst hal
          cases al
          all_goals (
            go_wp2
            go_ret
            exact ⟨rfl, hB5'.trans (hB6.mono hB5'.size)⟩)
    · have HCK2 := HCK.out w2 hB2
      have hce : checkE h = false := by unfold checkE; simp [hv]
      have hne : (valid h != 0) = true := by simpa using hv
      rw [hce] at HCK2
      generalize valid h = vh at *
      clear hce hv
      go_wp2_with (first
        | (go_at_call 7; refine HCK2.mono ?_; rintro e w3 ⟨rfl, hB3⟩)
        | (go_at_call 8; refine (HN _ _).mono ?_; rintro e w4 ⟨rfl, rfl⟩))
      go_ret
      exact ⟨rfl, hB2.trans (hB3.mono hB2.size)⟩
end Go.Proofs.Ytbcnpdpdflkanab
