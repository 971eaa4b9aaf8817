/-
  The document's Restore.
-/
import Derived.Test.YtglhjgfaelfleaaGreatRx
import Derived.Deep.CutBlock
import Derived.Deep.RegionHeld3
namespace Go.Proofs.YtglhjgfaelfleaaGreat
open Go.RowKit Go.Shelf
set_option linter.unusedVariables false

theorem before_nil (k : Bs) (h : k ≠ []) : bytesBefore [] k = true := by cases k with
  | nil => exact absurd rfl h
  | cons a b => rfl
theorem lastK_at {ps : List (Bs × Bs)} {k : Nat} (h : ps.length = k + 1) : lastK ps = (ps[k]'(by omega)).1 := by
  unfold lastK
  have e : ps.getLast? = some (ps[k]'(by omega)) := by
    rw [List.getLast?_eq_getElem?, show ps.length - 1 = k by omega]
    exact List.getElem?_eq_getElem (by omega)
  rw [e]
theorem lastC_at {ss : List Se} {k : Nat} (h : ss.length = k + 1) : lastC ss = (ss[k]'(by omega)).cl.toNat := by
  unfold lastC
  have e : ss.getLast? = some (ss[k]'(by omega)) := by
    rw [List.getLast?_eq_getElem?, show ss.length - 1 = k by omega]
    exact List.getElem?_eq_getElem (by omega)
  rw [e]
theorem cntD_le {l : Bs} {most : Nat} {s : Nat × Nat} (h : (cntD l most s).2.2 = 0) : (cntD l most s).1 ≤ most := by
  unfold cntD frmD at h ⊢
  dsimp only at h ⊢
  split at h
  · simp at h
  · rename_i h1
    by_cases hn : (rdN l s).1 ≤ most
    · exact hn
    · exact absurd ⟨by simp [hn], h⟩ h1

theorem step_append_ro {α : Type} (R : RK α) {ops : Array Oper} {o : Oper} {a : Act} {w : World} {K : Act → World → Prop} {Q : Exit → Act → World → Prop} {E : Prop} (hg : o.guard = none) (s y : Operand)
    (hop : o.op = .call { callee := .builtin .append, args := #[s, y], argTypes := #[R.S, R.S] })
    (N : Nat) (v : Value) (xs : List α) (x : α) (hs : a.eval s = v) (hv : Ro R N w v xs) {B : Nat} (hy : a.eval y = .slice (some ⟨B, 0, none⟩) 1 1) (hB : B = w.heap.size) (hlen : xs.length ≤ 1000000000) (hN : N ≤ w.heap.size)
    (hK : ∀ v' w', Ro R N w' v' (xs ++ [x]) → (w.alloc (.cells (R.enc x).toArray R.E)).grownBy w' v.ownBlock → (v'.ownBlock = v.ownBlock ∨ v'.ownBlock = some (w.heap.size + 1)) → K (a.put o.dst v') w') :
    if Region.wanted o (yielded ops a.tmps) = true then Oper.wp Tryz.prog o a (w.alloc (.cells (R.enc x).toArray R.E)) K Q else E := by
  subst hB
  have hw : Region.wanted o (yielded ops a.tmps) = true := by simp [Region.wanted, hg]
  rw [if_pos hw]
  obtain ⟨v', w', hr, h2, h3, h4⟩ := run_append_ro R o.type w N v xs x hv hlen hN
  unfold Oper.wp execOp
  simp only [hop, resolve, invoke, builtin, Sem.run_bind, Sem.run_pure, Result.andThen_ok, List.map_toArray, List.map_cons, List.map_nil, hs, hy, hr]
  exact hK v' w' h2 h3 h4

theorem Db.grew {w0 W V W2 : World} {Q D : Nat} {v : Value} {l : Bs} {s : Nat × Nat} {vp vs : Value} {K : KV} {row : Option Nat} (h : Db w0 W Q D v l s vp vs K) (hV : Below W.heap.size W V) (hg : V.grownBy W2 row) (hne : row ≠ some D) :
    W2.cell? ⟨D, 0, none⟩ = some vp ∧ W2.cell? ⟨D, 1, none⟩ = some vs ∧ W2.frozen? ⟨D, 0, none⟩ = false ∧ W2.frozen? ⟨D, 1, none⟩ = false := by
  have h1 := h.below hV
  have hD2 : W2.heap[D]? = some (.cells #[vp, vs] 63 (0, 0)) := (hg.block D h1.lt (fun e => hne e.symm)).trans h1.hd
  refine ⟨?_, ?_, ?_, ?_⟩
  · simp only [World.cell?, hD2]; rfl
  · simp only [World.cell?, hD2]; rfl
  · simp [World.frozen?, hD2]
  · simp [World.frozen?, hD2]
/-- Restore's answer. -/
def DrR (W : World) (l : Bs) (e : Ending) (w' : World) : Prop :=
  Below W.heap.size W w' ∧ ((docE l ≠ 0 ∧ e = .returned (.tuple #[.pointer none, .int .i64 (docE l : Int)])) ∨ (docE l = 0 ∧ ∃ D vp vs, e = .returned (.tuple #[.pointer (some ⟨D, 0, none⟩), .int .i64 0]) ∧ w'.heap[D]? = some (.cells #[vp, vs] 63 (0, 0)) ∧ Ro RQ W.heap.size w' vp (docK l).ps ∧ Ro RT W.heap.size w' vs (docK l).ss ∧ W.heap.size ≤ D))

set_option maxRecDepth 100000 in
set_option maxHeartbeats 2000000 in
theorem rrestore_any {M : Nat} {v : Value} {l : Bs} (W : World) (hv : Sl M W v l) (hM : M ≤ W.heap.size) (hl : l.length ≤ 1000000) :
    Calls Tryz.prog 8 #[v] W fun e w' => DrR W l e w' := by
  obtain ⟨va, vc, hva, -⟩ := id hv
  have HQ0 : Hid (Rq W (W.alloc (.cells #[v, .int .i64 0, .int .i64 0] 59)) W.heap.size v l 0 0) := newQ hv hM hl
  clear hv
  have HDP : Hid (docP l = whl (pairD l) (cntD l 128 (0, 0)).1 ([], (cntD l 128 (0, 0)).2)) := rfl
  have HC : Hid (∀ V Q, Rq W V Q v l 0 0 → Calls Tryz.prog 24 #[.pointer (some ⟨Q, 0, none⟩), .int .i64 ((128 : Nat) : Int)] V fun r w' => RqR W V Q v l (.int .i64 ((cntD l 128 (0, 0)).1 : Int)) (cntD l 128 (0, 0)).2 r w') := fun V Q h => rcount_any (s := (0, 0)) h 128
  have hcn : (cntD l 128 (0, 0)).2.2 = 0 → (cntD l 128 (0, 0)).1 ≤ 128 := cntD_le
  generalize cntD l 128 (0, 0) = ct at *
  obtain ⟨n, s0⟩ := ct
  dsimp only at HC HDP hcn
  subst hva
  go_enter Tryz.func8, Tryz.ntmps8
  obtain ⟨W1, HW1⟩ : ∃ W1, Hid (W.alloc (.cells #[.slice va l.length vc, .int .i64 0, .int .i64 0] 59) = W1) := ⟨_, rfl⟩
  obtain ⟨W2, HW2⟩ : ∃ W2, Hid (W1.alloc (.cells #[.slice none 0 0, .slice none 0 0] 63) = W2) := ⟨_, rfl⟩
  have hz1 : W1.heap.size = W.heap.size + 1 := by rw [← HW1.out]; simp
  have H2 : Hid (Db W W2 W.heap.size (W.heap.size + 1) (.slice va l.length vc) l (0, 0) (.slice none 0 0) (.slice none 0 0) ⟨[], []⟩) := by
    have hB : Below W1.heap.size W1 W2 := by rw [← HW2.out]; exact (Below.refl _ _).alloc (Nat.le_refl _) _
    have hq1 : Rq W W1 W.heap.size (.slice va l.length vc) l 0 0 := by rw [← HW1.out]; exact HQ0.out
    refine ⟨hq1.mono hB, ?_, Ro.nil _ _ _, Ro.nil _ _ _, Nat.le_succ _⟩
    rw [← hz1, ← HW2.out]
    exact heap_alloc_new W1 _
  clear HQ0
  go_wp2_with fail
  try rw [HW1.out]
  try rw [HW2.out]
  try rw [hz1]
  refine (HC.out _ _ H2.out.rq).mono ?_
  rintro e w3 ⟨rfl, h3, hO3⟩
  have H3 : Hid (Db W w3 W.heap.size (W.heap.size + 1) (.slice va l.length vc) l s0 (.slice none 0 0) (.slice none 0 0) ⟨[], []⟩) := H2.out.go h3 hO3
  clear HC h3 hO3 H2 HW1 HW2 hz1
  have HQD : Hid (W.heap.size < W.heap.size + 1) := Nat.lt_succ_self _
  obtain ⟨Q, HQ⟩ : ∃ Q, Hid (W.heap.size = Q) := ⟨_, rfl⟩
  obtain ⟨D, HD⟩ : ∃ D, Hid (W.heap.size + 1 = D) := ⟨_, rfl⟩
  rw [HD.out] at H3 ⊢
  rw [HQ.out] at H3 ⊢
  go_upto_block 0 with fail
  go_cut [7, 8] from 21 to 68 (fun _ _ wx => ∃ (ps : List (Bs × Bs)) (s : Nat × Nat) (vp : Value), docP l = (ps, s) ∧ Db W wx Q D (.slice va l.length vc) l s vp (.slice none 0 0) ⟨ps, []⟩)
  case first =>
    go_wp2_with fail
    go_loopw [7] (fun kv wr => ∃ (k : Nat) (ps : List (Bs × Bs)) (s : Nat × Nat) (vp : Value), kv = .int .i64 (k : Int) ∧ k ≤ n ∧ ps.length = k ∧ whl (pairD l) (n - k) (ps, s) = docP l ∧ (s.2 = 0 → n ≤ 128) ∧ Db W wr Q D (.slice va l.length vc) l s vp (.slice none 0 0) ⟨ps, []⟩) (fun kv _ => n - (intOf kv).toNat)
    case atStart => exact ⟨0, [], s0, _, rfl, Nat.zero_le _, rfl, HDP.out.symm, hcn, H3.out⟩
    case round =>
      obtain ⟨k, ps, s, vp, rfl, hk, hpl, hwh, hnn, hDb⟩ := hrel
      have HDb : Hid (Db W wr Q D (.slice va l.length vc) l s vp (.slice none 0 0) ⟨ps, []⟩) := hDb
      have HWH : Hid (whl (pairD l) (n - k) (ps, s) = docP l) := hwh
      obtain ⟨d0, d1, d2, -, -⟩ := hDb.cells
      clear H3 HDP hDb hwh
      by_cases hlt : k < n
      · by_cases he : s.2 = 0
        · have hn128 := hnn he
          have hlt' : (k : Int) < (n : Int) := by omega
          obtain ⟨p, e⟩ := s
          dsimp only at he d2 hnn
          subst he
          have HN : Hid (whl (pairD l) (n - (k + 1)) (pairD l (ps, (p, 0))) = docP l) := by
            show whl (pairD l) (n - (k + 1)) (pairD l (ps, (p, 0))) = docP l
            rw [← HWH.out, show n - k = (n - (k + 1)) + 1 by omega]
            exact (if_pos rfl).symm
          have HPD : Hid (pairD l (ps, (p, 0)) = (ps ++ [((rdB l 64 (p, 0)).1, (rdB l 1024 (frmD (bytesBefore (lastK ps) (rdB l 64 (p, 0)).1) 4 (rdB l 64 (p, 0)).2)).1)], (rdB l 1024 (frmD (bytesBefore (lastK ps) (rdB l 64 (p, 0)).1) 4 (rdB l 64 (p, 0)).2)).2)) := rfl
          have CT := rxText_any HDb.out.rq 64
          generalize rdB l 64 (p, 0) = kt at *
          obtain ⟨ky, sa⟩ := kt
          dsimp only at CT HPD
          have HF : Hid (∀ V, Rq W V Q (.slice va l.length vc) l sa.1 sa.2 → Calls Tryz.prog 26 #[.pointer (some ⟨Q, 0, none⟩), .bool (bytesBefore (lastK ps) ky)] V fun r w' => RqR W V Q (.slice va l.length vc) l (.tuple #[]) (frmD (bytesBefore (lastK ps) ky) 4 sa) r w') := fun V h => rform_any h _
          obtain ⟨b, hbb⟩ : ∃ b, bytesBefore (lastK ps) ky = b := ⟨_, rfl⟩
          rw [hbb] at HF HPD
          generalize frmD b 4 sa = sb at *
          have HT : Hid (∀ V, Rq W V Q (.slice va l.length vc) l sb.1 sb.2 → Calls Tryz.prog 25 #[.pointer (some ⟨Q, 0, none⟩), .int .i64 1024] V fun r w' => RqR W V Q (.slice va l.length vc) l (.string ⟨(rdB l 1024 sb).1.toArray⟩) (rdB l 1024 sb).2 r w') := fun V h => rxText_any h 1024
          generalize rdB l 1024 sb = vt at *
          obtain ⟨vl, sc⟩ := vt
          dsimp only at HT HPD
          have hcase : (ky = [] ∧ b = false) ∨ (ky ≠ [] ∧ k = 0 ∧ b = true) ∨ (ky ≠ [] ∧ ∃ k', k = k' + 1) := by
            by_cases h0 : ky = []
            · subst h0; rw [not_before_nil] at hbb; exact .inl ⟨rfl, hbb.symm⟩
            · cases k with
              | zero =>
                have : ps = [] := List.eq_nil_of_length_eq_zero hpl
                subst this
                exact .inr (.inl ⟨h0, rfl, by rw [← hbb]; exact before_nil ky h0⟩)
              | succ k' => exact .inr (.inr ⟨h0, k', rfl⟩)
          clear hnn HWH
          go_wp2_with fail
          refine CT.mono ?_
          rintro e w4 ⟨rfl, h4, hO4⟩
          have H4 : Hid (Db W w4 Q D (.slice va l.length vc) l sa vp (.slice none 0 0) ⟨ps, []⟩) := HDb.out.go h4 hO4
          clear CT h4 hO4 HDb d0 d1 d2
          obtain ⟨d0, d1, d2, -, -⟩ := H4.out.cells
          have HRP : Hid (Ro RQ W.heap.size w4 vp ps) := H4.out.rp
          obtain ⟨pa, pc, hvp, hc1, hc2⟩ := HRP.out.shape
          rw [hpl] at hvp hc1
          subst hvp
          have hge : ∃ pk : Bs, (ky = [] ∧ b = false) ∨ (ky ≠ [] ∧ k = 0 ∧ b = true) ∨ (ky ≠ [] ∧ ∃ k' g, k = k' + 1 ∧ pa = some ⟨g, 0, none⟩ ∧ w4.cell? ⟨g, k' * 2, none⟩ = some (.string ⟨pk.toArray⟩) ∧ bytesBefore pk ky = b) := by
            rcases hcase with h | h | ⟨h0, k', rfl⟩
            · exact ⟨[], .inl h⟩
            · exact ⟨[], .inr (.inl h)⟩
            · obtain ⟨g, cap, e1, _, _, _, hc⟩ := HRP.out.at0 (by omega)
              have hcc := hc k' 0 (by omega) (by decide)
              refine ⟨(ps[k']'(by omega)).1, .inr (.inr ⟨h0, k', g, rfl, by simp only [Value.slice.injEq] at e1; exact e1.1, hcc, ?_⟩)⟩
              rw [← hbb, lastK_at hpl]
          clear hcase HRP hbb
          obtain ⟨pk, hge⟩ := hge
          have HPL : Hid (ps.length = k) := hpl
          have hk128 : k < 128 := by omega
          clear hpl
          unfold maxLen at hc2
          rcases hge with ⟨h1, hb⟩ | ⟨h2, hk0, hb⟩ | ⟨h3, k', g, hk0, hpa, hcl, hb⟩
          · subst h1; subst hb
            go_wp2_with fail
            refine (HF.out _ H4.out.rq).mono ?_
            rintro e w5 ⟨rfl, h5, hO5⟩
            have H5 : Hid (Db W w5 Q D (.slice va l.length vc) l sb (.slice pa k pc) (.slice none 0 0) ⟨ps, []⟩) := H4.out.go h5 hO5
            clear HF h5 hO5 H4 d0 d1 d2
            have H5d : Hid (Db W w5.drew Q D (.slice va l.length vc) l sb (.slice pa k pc) (.slice none 0 0) ⟨ps, []⟩) := H5.out.below (Below.drew' (Below.refl _ _))
            obtain ⟨d0, d1, d2, -, -⟩ := H5.out.cells
            have HP9 : Hid (ps.length ≤ 1000000000) := by show ps.length ≤ 1000000000; rw [HPL.out]; omega
            clear H5
            go_wp2_with fail
            go_region_law
              (first
                | (refine step_append_ro RQ rfl (.tmp 60) (.tmp 65) rfl W.heap.size (.slice pa k pc) ps (([] : Bs), vl) rfl H6.out.rp rfl rfl HP9.out H6.out.rq.bel.size ?_; intro v7 W7 hR7 hg7 ho7; obtain ⟨g0, g1, f0, f1⟩ := H6.out.grew ((Below.refl _ _).alloc (Nat.le_refl _) _) hg7 H6.out.apP.2; have H7 : Hid (Db W (W7.setCell ⟨D, 0, none⟩ v7) Q D (.slice va l.length vc) l sc v7 (.slice none 0 0) ⟨ps ++ [(([] : Bs), vl)], []⟩) := H6.out.pushP ((Below.refl _ _).alloc (Nat.le_refl _) _) hg7 hR7; obtain ⟨a7, c7, hv7, -, -⟩ := hR7.shape; rw [List.length_append, List.length_singleton] at hv7; subst hv7; clear hR7 hg7 ho7 H6)
                | (go_simp; go_wp2_with (go_at_call 25; refine (HT.out w5.drew H5d.out.rq).mono ?_; rintro e w6 ⟨rfl, h6, hO6⟩; have H6 : Hid (Db W w6 Q D (.slice va l.length vc) l sc (.slice pa k pc) (.slice none 0 0) ⟨ps, []⟩) := H5d.out.go h6 hO6; obtain ⟨e0, e1, e2, -, -⟩ := H6.out.cells; have hD6 := H6.out.lt; clear HT h6 hO6 H5d))
                | fail)
            all_goals
              go_wp2
              go_roundw
              case rel => exact ⟨k + 1, ps ++ [(([] : Bs), vl)], sc, _, by go_num, by omega, by rw [List.length_append, HPL.out]; rfl, by have := HN.out; rw [HPD.out] at this; exact this, fun _ => hn128, H7.out⟩
              case measure => simp [intOf]; omega
          · have h0' := beq_eq_false_iff_ne.2 h2
            subst hk0; subst hb
            go_wp2_with fail
            refine (HF.out _ H4.out.rq).mono ?_
            rintro e w5 ⟨rfl, h5, hO5⟩
            have H5 : Hid (Db W w5 Q D (.slice va l.length vc) l sb (.slice pa 0 pc) (.slice none 0 0) ⟨ps, []⟩) := H4.out.go h5 hO5
            clear HF h5 hO5 H4 d0 d1 d2
            have H5d : Hid (Db W w5.drew Q D (.slice va l.length vc) l sb (.slice pa 0 pc) (.slice none 0 0) ⟨ps, []⟩) := H5.out.below (Below.drew' (Below.refl _ _))
            obtain ⟨d0, d1, d2, -, -⟩ := H5.out.cells
            have HP9 : Hid (ps.length ≤ 1000000000) := by show ps.length ≤ 1000000000; rw [HPL.out]; omega
            clear H5
            go_wp2_with fail
            go_region_law
              (first
                | (refine step_append_ro RQ rfl (.tmp 60) (.tmp 65) rfl W.heap.size (.slice pa 0 pc) ps (ky, vl) rfl H6.out.rp rfl rfl HP9.out H6.out.rq.bel.size ?_; intro v7 W7 hR7 hg7 ho7; obtain ⟨g0, g1, f0, f1⟩ := H6.out.grew ((Below.refl _ _).alloc (Nat.le_refl _) _) hg7 H6.out.apP.2; have H7 : Hid (Db W (W7.setCell ⟨D, 0, none⟩ v7) Q D (.slice va l.length vc) l sc v7 (.slice none 0 0) ⟨ps ++ [(ky, vl)], []⟩) := H6.out.pushP ((Below.refl _ _).alloc (Nat.le_refl _) _) hg7 hR7; obtain ⟨a7, c7, hv7, -, -⟩ := hR7.shape; rw [List.length_append, List.length_singleton] at hv7; subst hv7; clear hR7 hg7 ho7 H6)
                | (go_simp; go_wp2_with (go_at_call 25; refine (HT.out w5.drew H5d.out.rq).mono ?_; rintro e w6 ⟨rfl, h6, hO6⟩; have H6 : Hid (Db W w6 Q D (.slice va l.length vc) l sc (.slice pa 0 pc) (.slice none 0 0) ⟨ps, []⟩) := H5d.out.go h6 hO6; obtain ⟨e0, e1, e2, -, -⟩ := H6.out.cells; have hD6 := H6.out.lt; clear HT h6 hO6 H5d))
                | fail)
            all_goals
              go_wp2
              go_roundw
              case rel => exact ⟨0 + 1, ps ++ [(ky, vl)], sc, _, by go_num, by omega, by rw [List.length_append, HPL.out]; rfl, by have := HN.out; rw [HPD.out] at this; exact this, fun _ => hn128, H7.out⟩
              case measure => simp [intOf]; omega
          · have h0' := beq_eq_false_iff_ne.2 h3
            subst hk0; subst hpa
            have i1 : ((k' : Int) + 1 == 0) = false := beq_eq_false_iff_ne.2 (by omega)
            go_wp2_with fail
            rw [gt_before pk ky, hb]
            refine (HF.out _ H4.out.rq).mono ?_
            rintro e w5 ⟨rfl, h5, hO5⟩
            have H5 : Hid (Db W w5 Q D (.slice va l.length vc) l sb (.slice (some ⟨g, 0, none⟩) (k' + 1) pc) (.slice none 0 0) ⟨ps, []⟩) := H4.out.go h5 hO5
            clear HF h5 hO5 H4 d0 d1 d2
            have H5d : Hid (Db W w5.drew Q D (.slice va l.length vc) l sb (.slice (some ⟨g, 0, none⟩) (k' + 1) pc) (.slice none 0 0) ⟨ps, []⟩) := H5.out.below (Below.drew' (Below.refl _ _))
            obtain ⟨d0, d1, d2, -, -⟩ := H5.out.cells
            have HP9 : Hid (ps.length ≤ 1000000000) := by show ps.length ≤ 1000000000; rw [HPL.out]; omega
            clear H5
            go_wp2_with fail
            go_region_law
              (first
                | (refine step_append_ro RQ rfl (.tmp 60) (.tmp 65) rfl W.heap.size (.slice (some ⟨g, 0, none⟩) (k' + 1) pc) ps (ky, vl) rfl H6.out.rp rfl rfl HP9.out H6.out.rq.bel.size ?_; intro v7 W7 hR7 hg7 ho7; obtain ⟨g0, g1, f0, f1⟩ := H6.out.grew ((Below.refl _ _).alloc (Nat.le_refl _) _) hg7 H6.out.apP.2; have H7 : Hid (Db W (W7.setCell ⟨D, 0, none⟩ v7) Q D (.slice va l.length vc) l sc v7 (.slice none 0 0) ⟨ps ++ [(ky, vl)], []⟩) := H6.out.pushP ((Below.refl _ _).alloc (Nat.le_refl _) _) hg7 hR7; obtain ⟨a7, c7, hv7, -, -⟩ := hR7.shape; rw [List.length_append, List.length_singleton] at hv7; subst hv7; clear hR7 hg7 ho7 H6)
                | (go_simp; go_wp2_with (go_at_call 25; refine (HT.out w5.drew H5d.out.rq).mono ?_; rintro e w6 ⟨rfl, h6, hO6⟩; have H6 : Hid (Db W w6 Q D (.slice va l.length vc) l sc (.slice (some ⟨g, 0, none⟩) (k' + 1) pc) (.slice none 0 0) ⟨ps, []⟩) := H5d.out.go h6 hO6; obtain ⟨e0, e1, e2, -, -⟩ := H6.out.cells; have hD6 := H6.out.lt; clear HT h6 hO6 H5d))
                | fail)
            all_goals
              go_wp2
              go_roundw
              case rel => exact ⟨(k' + 1) + 1, ps ++ [(ky, vl)], sc, _, by go_num, by omega, by rw [List.length_append, HPL.out]; rfl, by have := HN.out; rw [HPD.out] at this; exact this, fun _ => hn128, H7.out⟩
              case measure => simp [intOf]; omega
        · have HDQ : Hid (docP l = (ps, s)) := by
            show docP l = (ps, s)
            rw [← HWH.out, whl_stop he]
          have hlt' : (k : Int) < (n : Int) := by omega
          have he' : ((s.2 : Int) == 0) = false := by simpa using he
          clear HWH
          go_wp2
          go_meet
          exact ⟨ps, s, vp, HDQ.out, HDb.out⟩
      · have HDQ : Hid (docP l = (ps, s)) := by
          show docP l = (ps, s)
          have hkn : n - k = 0 := by omega
          rw [← HWH.out, hkn]; rfl
        have hlt' : ¬ (k : Int) < (n : Int) := by omega
        clear HWH
        go_wp2
        go_meet
        exact ⟨ps, s, vp, HDQ.out, HDb.out⟩
  case rest =>
    obtain ⟨ps, s1, vp, hdp, hDb⟩ := hcut
    have HDP1 : Hid (docP l = (ps, s1)) := hdp
    have HDS : Hid (docS l = whl (sesD l) (cntD l 32 s1).1 ([], (cntD l 32 s1).2)) := by show docS l = _; unfold docS; rw [hdp]
    have HC2 : Hid (Calls Tryz.prog 24 #[.pointer (some ⟨Q, 0, none⟩), .int .i64 ((32 : Nat) : Int)] wc fun r w' => RqR W wc Q (.slice va l.length vc) l (.int .i64 ((cntD l 32 s1).1 : Int)) (cntD l 32 s1).2 r w') := rcount_any (s := s1) hDb.rq 32
    have H4 : Hid (Db W wc Q D (.slice va l.length vc) l s1 vp (.slice none 0 0) ⟨ps, []⟩) := hDb
    have hcn2 : (cntD l 32 s1).2.2 = 0 → (cntD l 32 s1).1 ≤ 32 := cntD_le
    clear hdp hDb H3 HDP hcn
    generalize cntD l 32 s1 = ct at *
    obtain ⟨m, s2⟩ := ct
    dsimp only at HC2 HDS hcn2
    have c32 : ((32 : Nat) : Int) = 32 := rfl
    rw [c32] at HC2
    clear c32
    go_wp2_with fail
    refine HC2.out.mono ?_
    rintro e w5 ⟨rfl, h5, hO5⟩
    have H5 : Hid (Db W w5 Q D (.slice va l.length vc) l s2 vp (.slice none 0 0) ⟨ps, []⟩) := H4.out.go h5 hO5
    clear HC2 h5 hO5 H4
    go_upto_block 2 with fail
    go_cut [10, 11, 12] from 71 to 163 (fun _ _ _ wx => ∃ (ss : List Se) (s : Nat × Nat) (vs : Value), docS l = (ss, s) ∧ Db W wx Q D (.slice va l.length vc) l s vp vs ⟨ps, ss⟩)
    case first =>
      go_wp2_with fail
      go_loopw [10] (fun kv wr => ∃ (k : Nat) (ss : List Se) (s : Nat × Nat) (vs : Value), kv = .int .i64 (k : Int) ∧ k ≤ m ∧ ss.length = k ∧ (∀ x ∈ ss, 0 ≤ x.cl) ∧ whl (sesD l) (m - k) (ss, s) = docS l ∧ (s.2 = 0 → m ≤ 32) ∧ Db W wr Q D (.slice va l.length vc) l s vp vs ⟨ps, ss⟩) (fun kv _ => m - (intOf kv).toNat)
      case atStart => exact ⟨0, [], s2, _, rfl, Nat.zero_le _, rfl, (fun x hx => absurd hx List.not_mem_nil), HDS.out.symm, hcn2, H5.out⟩
      case round =>
        obtain ⟨k, ss, s, vs, rfl, hk, hpl, hnn, hwh, hmm, hDb⟩ := hrel
        have HDb : Hid (Db W wr Q D (.slice va l.length vc) l s vp vs ⟨ps, ss⟩) := hDb
        have HWH : Hid (whl (sesD l) (m - k) (ss, s) = docS l) := hwh
        have HNN : Hid (∀ x ∈ ss, 0 ≤ x.cl) := hnn
        obtain ⟨d0, d1, d2, -, -⟩ := hDb.cells
        clear H5 HDS hDb hwh HDP1 hnn hcn2
        by_cases hlt : k < m
        · by_cases he : s.2 = 0
          · have hm32 := hmm he
            have hlt' : (k : Int) < (m : Int) := by omega
            have hk32 : k < 32 := by omega
            obtain ⟨p, e⟩ := s
            dsimp only at he d2 hmm
            subst he
            have HN : Hid (whl (sesD l) (m - (k + 1)) (sesD l (ss, (p, 0))) = docS l) := by
              show whl (sesD l) (m - (k + 1)) (sesD l (ss, (p, 0))) = docS l
              rw [← HWH.out, show m - k = (m - (k + 1)) + 1 by omega]
              exact (if_pos rfl).symm
            have HSD : Hid (sesD l (ss, (p, 0)) = (ss ++ [⟨((rdN l (p, 0)).1 : Int), ((rdN l (frmD (decide (lastC ss < (rdN l (p, 0)).1)) 4 (rdN l (p, 0)).2)).1 : Int), ⟨((rdN l (frmD (decide (0 < (rdN l (frmD (decide (lastC ss < (rdN l (p, 0)).1)) 4 (rdN l (p, 0)).2)).1)) 4 (rdN l (frmD (decide (lastC ss < (rdN l (p, 0)).1)) 4 (rdN l (p, 0)).2)).2)).1 : Int), (rdB l 1024 (frmD (keptB (rdN l (frmD (decide (0 < (rdN l (frmD (decide (lastC ss < (rdN l (p, 0)).1)) 4 (rdN l (p, 0)).2)).1)) 4 (rdN l (frmD (decide (lastC ss < (rdN l (p, 0)).1)) 4 (rdN l (p, 0)).2)).2)).1) 4 (rdN l (frmD (decide (0 < (rdN l (frmD (decide (lastC ss < (rdN l (p, 0)).1)) 4 (rdN l (p, 0)).2)).1)) 4 (rdN l (frmD (decide (lastC ss < (rdN l (p, 0)).1)) 4 (rdN l (p, 0)).2)).2)).2)).1⟩⟩], (sesD l (ss, (p, 0))).2)) := rfl
            clear HSD
            obtain ⟨cl, sa, hA⟩ : ∃ cl sa, rdN l (p, 0) = (cl, sa) := ⟨_, _, rfl⟩
            obtain ⟨b1, hb1⟩ : ∃ b1, decide (lastC ss < cl) = b1 := ⟨_, rfl⟩
            obtain ⟨sb, hB⟩ : ∃ sb, frmD b1 4 sa = sb := ⟨_, rfl⟩
            obtain ⟨sq, sc, hC⟩ : ∃ sq sc, rdN l sb = (sq, sc) := ⟨_, _, rfl⟩
            obtain ⟨b2, hb2⟩ : ∃ b2, decide (0 < sq) = b2 := ⟨_, rfl⟩
            obtain ⟨sd, hD⟩ : ∃ sd, frmD b2 4 sc = sd := ⟨_, rfl⟩
            obtain ⟨co, se, hE⟩ : ∃ co se, rdN l sd = (co, se) := ⟨_, _, rfl⟩
            obtain ⟨b3, hb3⟩ : ∃ b3, keptB co = b3 := ⟨_, rfl⟩
            obtain ⟨sf, hF⟩ : ∃ sf, frmD b3 4 se = sf := ⟨_, rfl⟩
            obtain ⟨vl, sg, hG⟩ : ∃ vl sg, rdB l 1024 sf = (vl, sg) := ⟨_, _, rfl⟩
            obtain ⟨b4, hb4⟩ : ∃ b4, decide (vl = [] ∨ co = 3) = b4 := ⟨_, rfl⟩
            obtain ⟨sh, hH⟩ : ∃ sh, frmD b4 4 sg = sh := ⟨_, rfl⟩
            have HSD : Hid (sesD l (ss, (p, 0)) = (ss ++ [⟨(cl : Int), (sq : Int), ⟨(co : Int), vl⟩⟩], sh)) := by
              show sesD l (ss, (p, 0)) = _
              unfold sesD
              dsimp only
              rw [hA]; dsimp only; rw [hb1, hB, hC]; dsimp only; rw [hb2, hD, hE]; dsimp only; rw [hb3, hF, hG]; dsimp only; rw [hb4, hH]
            have CI := rxInt_any (s := (p, 0)) HDb.out.rq
            rw [hA] at CI
            have HI2 : Hid (∀ V, Rq W V Q (.slice va l.length vc) l sb.1 sb.2 → Calls Tryz.prog 27 #[.pointer (some ⟨Q, 0, none⟩)] V fun r w' => RqR W V Q (.slice va l.length vc) l (.int .i64 (sq : Int)) sc r w') := fun V h => by have := rxInt_any (s := sb) h; rw [hC] at this; exact this
            have HI3 : Hid (∀ V, Rq W V Q (.slice va l.length vc) l sd.1 sd.2 → Calls Tryz.prog 27 #[.pointer (some ⟨Q, 0, none⟩)] V fun r w' => RqR W V Q (.slice va l.length vc) l (.int .i64 (co : Int)) se r w') := fun V h => by have := rxInt_any (s := sd) h; rw [hE] at this; exact this
            have HT : Hid (∀ V, Rq W V Q (.slice va l.length vc) l sf.1 sf.2 → Calls Tryz.prog 25 #[.pointer (some ⟨Q, 0, none⟩), .int .i64 1024] V fun r w' => RqR W V Q (.slice va l.length vc) l (.string ⟨vl.toArray⟩) sg r w') := fun V h => by have := rxText_any (s := sf) h 1024; rw [hG] at this; exact this
            have HF1 : Hid (∀ V, Rq W V Q (.slice va l.length vc) l sa.1 sa.2 → Calls Tryz.prog 26 #[.pointer (some ⟨Q, 0, none⟩), .bool b1] V fun r w' => RqR W V Q (.slice va l.length vc) l (.tuple #[]) sb r w') := fun V h => by have := rform_any (s := sa) h b1; rw [hB] at this; exact this
            have HF2 : Hid (∀ V, Rq W V Q (.slice va l.length vc) l sc.1 sc.2 → Calls Tryz.prog 26 #[.pointer (some ⟨Q, 0, none⟩), .bool b2] V fun r w' => RqR W V Q (.slice va l.length vc) l (.tuple #[]) sd r w') := fun V h => by have := rform_any (s := sc) h b2; rw [hD] at this; exact this
            have HF3 : Hid (∀ V, Rq W V Q (.slice va l.length vc) l se.1 se.2 → Calls Tryz.prog 26 #[.pointer (some ⟨Q, 0, none⟩), .bool b3] V fun r w' => RqR W V Q (.slice va l.length vc) l (.tuple #[]) sf r w') := fun V h => by have := rform_any (s := se) h b3; rw [hF] at this; exact this
            have HF4 : Hid (∀ V, Rq W V Q (.slice va l.length vc) l sg.1 sg.2 → Calls Tryz.prog 26 #[.pointer (some ⟨Q, 0, none⟩), .bool b4] V fun r w' => RqR W V Q (.slice va l.length vc) l (.tuple #[]) sh r w') := fun V h => by have := rform_any (s := sg) h b4; rw [hH] at this; exact this
            have HB3 : Hid (keptB co = b3) := hb3
            have HB4 : Hid (decide (vl = [] ∨ co = 3) = b4) := hb4
            have hcase : (cl = 0 ∧ b1 = false) ∨ (0 < cl ∧ k = 0 ∧ b1 = true) ∨ (0 < cl ∧ ∃ k', k = k' + 1) := by
              by_cases h0 : cl = 0
              · subst h0; exact .inl ⟨rfl, by rw [← hb1]; simp⟩
              · cases k with
                | zero =>
                  have : ss = [] := List.eq_nil_of_length_eq_zero hpl
                  subst this
                  exact .inr (.inl ⟨by omega, rfl, by rw [← hb1]; exact decide_eq_true (show 0 < cl by omega)⟩)
                | succ k' => exact .inr (.inr ⟨by omega, k', rfl⟩)
            have HB1 : Hid (decide (lastC ss < cl) = b1) := hb1
            have h2 : decide (0 < sq) = b2 := hb2
            clear hA hB hC hD hE hF hG hH hb1 hb2 hb3 hb4 hmm HWH
            go_wp2_with fail
            refine CI.mono ?_
            rintro e w6 ⟨rfl, h6, hO6⟩
            have H6 : Hid (Db W w6 Q D (.slice va l.length vc) l sa vp vs ⟨ps, ss⟩) := HDb.out.go h6 hO6
            clear CI h6 hO6 HDb d0 d1 d2
            obtain ⟨X, HX⟩ : ∃ X, Hid (w6.heap.size = X) := ⟨_, rfl⟩
            obtain ⟨w7, HW7⟩ : ∃ w7, Hid (w6.alloc (.cells #[.int .i64 (cl : Int), .int .i64 0, .int .i64 0, .string ⟨#[]⟩] 70) = w7) := ⟨_, rfl⟩
            have H7 : Hid (Dx W w7 Q D X (.slice va l.length vc) l sa vp vs ⟨ps, ss⟩ (.int .i64 (cl : Int)) (.int .i64 0) (.int .i64 0) (.string ⟨#[]⟩)) := by rw [← HW7.out]; exact H6.out.box HX.out.symm _ _ _ _
            have HRS : Hid (Ro RT W.heap.size w7 vs ss) := H7.out.db.rs
            obtain ⟨sa', sc', hvs, hc1, hc2⟩ := HRS.out.shape
            rw [hpl] at hvs hc1
            subst hvs
            have hge : ∃ pc : Int, (cl = 0 ∧ b1 = false) ∨ (0 < cl ∧ k = 0 ∧ b1 = true) ∨ (0 < cl ∧ ∃ k' g, k = k' + 1 ∧ sa' = some ⟨g, 0, none⟩ ∧ g < w7.heap.size ∧ w7.cell? ⟨g, k' * 4, none⟩ = some (.int .i64 pc) ∧ decide (pc < (cl : Int)) = b1) := by
              rcases hcase with h | h | ⟨h0, k', rfl⟩
              · exact ⟨0, .inl h⟩
              · exact ⟨0, .inr (.inl h)⟩
              · obtain ⟨g, cap, e1, _, hgl, _, hc⟩ := HRS.out.at0 (by omega)
                have hcc := hc k' 0 (by omega) (by decide)
                refine ⟨(ss[k']'(by omega)).cl, .inr (.inr ⟨h0, k', g, rfl, by simp only [Value.slice.injEq] at e1; exact e1.1, hgl, hcc, ?_⟩)⟩
                rw [← HB1.out, lastC_at hpl]
                have h0 := HNN.out _ (List.getElem_mem (l := ss) (n := k') (by omega))
                rw [Bool.eq_iff_iff]
                simp only [decide_eq_true_eq]
                omega
            clear hcase HRS HB1
            obtain ⟨pc, hge⟩ := hge
            have HPL : Hid (ss.length = k) := hpl
            clear hpl
            unfold maxLen at hc2
            obtain ⟨⟨x0, x1, x2, x3⟩, -⟩ := H7.out.box
            obtain ⟨d0, d1, d2, -, -⟩ := H7.out.db.cells
            have hXl : X < w7.heap.size := H7.out.lt
            have hDl : D < w7.heap.size := H7.out.db.lt
            go_upto_region 15 with fail
            try rw [HW7.out]
            try rw [HX.out]
            have H7d : Hid (Dx W w7.drew Q D X (.slice va l.length vc) l sa vp (.slice sa' k sc') ⟨ps, ss⟩ (.int .i64 (cl : Int)) (.int .i64 0) (.int .i64 0) (.string ⟨#[]⟩)) := H7.out.below (Below.drew' (Below.refl _ _))
            have HF1d := HF1.out w7.drew H7d.out.db.rq
            have HFD : Hid (Calls _ _ _ _ _) := HF1d
            clear HF1d
            go_cut [] from 71 to 163 (fun wx => Dx W wx Q D X (.slice va l.length vc) l sb vp (.slice sa' k sc') ⟨ps, ss⟩ (.int .i64 (cl : Int)) (.int .i64 0) (.int .i64 0) (.string ⟨#[]⟩))
            case first =>
              rcases hge with ⟨hc, hb⟩ | ⟨hc, hk0, hb⟩ | ⟨hc, k', g, hk0, hpa, hgl, hcl, hb⟩
              · have hcg : decide (0 < cl) = false := by simp; omega
                have hcg2 : ¬ 0 < cl := by omega
                subst hb
                refine wp_region_held_drew (S := fun w' => w'.cell? ⟨X, 0, none⟩ = some (.int .i64 (cl : Int))) (by kernel_rfl) x0 (fun hHeld => ?_)
                refine wpAnyH_take (i := 0) (oi := { dst := some 86, op := Op.move (Operand.tmp 4), type := 57, pos := "kv.go:154", after := #[], guard := none }) (v := ?v0a) rfl (by kernel_rfl) (by kernel_rfl) (by kernel_rfl) (fun _ _ _ h => h) (Or.inl ⟨by rfl, ?h0a⟩) hHeld ?r0a
                case h0a => intro w hSw; (try dsimp only at hSw); go_simp; try with_reducible rfl
                simp only [Act.put, List.setIfInBounds_toArray, List.set_cons_zero, List.set_cons_succ]
                refine wpAnyH_take (i := 1) (oi := { dst := some 87, op := Op.fieldAddr 70 (Operand.tmp 11) 0, type := 0, pos := "kv.go:154", after := #[], guard := none }) (v := ?v1a) rfl (by kernel_rfl) (by kernel_rfl) (by kernel_rfl) (fun _ _ _ h => h) (Or.inl ⟨by rfl, ?h1a⟩) hHeld ?r1a
                case h1a => intro w hSw; (try dsimp only at hSw); go_simp; try with_reducible rfl
                simp only [Act.put, List.setIfInBounds_toArray, List.set_cons_zero, List.set_cons_succ]
                refine wpAnyH_take (i := 2) (oi := { dst := some 88, op := Op.load 3 (Operand.tmp 87), type := 3, pos := "kv.go:154", after := #[{ on := 1, ground := Ground.data }], guard := none }) (v := ?v2a) rfl (by kernel_rfl) (by kernel_rfl) (by kernel_rfl) (fun _ _ _ h => h) (Or.inl ⟨by rfl, ?h2a⟩) hHeld ?r2a
                case h2a => intro w hSw; (try dsimp only at hSw); go_simp; try with_reducible rfl
                simp only [Act.put, List.setIfInBounds_toArray, List.set_cons_zero, List.set_cons_succ]
                refine wpAnyH_take (i := 3) (oi := { dst := some 89, op := Op.binOp BinOp.gtr 3 (Operand.tmp 88) (Operand.const (Value.int IntKind.i64 0)) 3, type := 4, pos := "kv.go:154", after := #[{ on := 2, ground := Ground.data }], guard := none }) (v := ?v3a) rfl (by kernel_rfl) (by kernel_rfl) (by kernel_rfl) (fun _ _ _ h => h) (Or.inl ⟨by rfl, ?h3a⟩) hHeld ?r3a
                case h3a => intro w hSw; (try dsimp only at hSw); go_simp; try with_reducible rfl
                simp only [Act.put, List.setIfInBounds_toArray, List.set_cons_zero, List.set_cons_succ]
                refine wpAnyH_take (i := 4) (oi := { dst := some 90, op := Op.move (Operand.tmp 89), type := 4, pos := "kv.go:154", after := #[{ on := 3, ground := Ground.data }], guard := none }) (v := ?v4a) rfl (by kernel_rfl) (by kernel_rfl) (by kernel_rfl) (fun _ _ _ h => h) (Or.inl ⟨by rfl, ?h4a⟩) hHeld ?r4a
                case h4a => intro w hSw; (try dsimp only at hSw); go_simp; try with_reducible rfl
                simp only [Act.put, List.setIfInBounds_toArray, List.set_cons_zero, List.set_cons_succ]
                refine wpAnyH_take (i := 5) (oi := { dst := some 91, op := Op.move (Operand.tmp 10), type := 3, pos := "kv.go:154", after := #[{ on := 4, ground := Ground.guard }], guard := some (4, true) }) (v := undef) rfl (by kernel_rfl) (by kernel_rfl) (by kernel_rfl) (fun _ _ _ h => h) (Or.inr ⟨by rfl, rfl⟩) hHeld ?_
                simp only [Act.put, List.setIfInBounds_toArray, List.set_cons_zero, List.set_cons_succ]
                refine wpAnyH_take (i := 6) (oi := { dst := some 92, op := Op.binOp BinOp.eql 3 (Operand.tmp 91) (Operand.const (Value.int IntKind.i64 0)) 3, type := 4, pos := "kv.go:154", after := #[{ on := 5, ground := Ground.data }, { on := 4, ground := Ground.guard }], guard := some (4, true) }) (v := undef) rfl (by kernel_rfl) (by kernel_rfl) (by kernel_rfl) (fun _ _ _ h => h) (Or.inr ⟨by rfl, rfl⟩) hHeld ?_
                simp only [Act.put, List.setIfInBounds_toArray, List.set_cons_zero, List.set_cons_succ]
                refine wpAnyH_take (i := 7) (oi := { dst := some 93, op := Op.move (Operand.tmp 92), type := 4, pos := "kv.go:154", after := #[{ on := 6, ground := Ground.data }, { on := 4, ground := Ground.chain }, { on := 4, ground := Ground.guard }], guard := some (4, true) }) (v := undef) rfl (by kernel_rfl) (by kernel_rfl) (by kernel_rfl) (fun _ _ _ h => h) (Or.inr ⟨by rfl, rfl⟩) hHeld ?_
                simp only [Act.put, List.setIfInBounds_toArray, List.set_cons_zero, List.set_cons_succ]
                refine wpAnyH_take (i := 8) (oi := { dst := some 94, op := Op.fieldAddr 70 (Operand.tmp 11) 0, type := 0, pos := "kv.go:154", after := #[{ on := 7, ground := Ground.guard }], guard := some (7, false) }) (v := undef) rfl (by kernel_rfl) (by kernel_rfl) (by kernel_rfl) (fun _ _ _ h => h) (Or.inr ⟨by rfl, rfl⟩) hHeld ?_
                simp only [Act.put, List.setIfInBounds_toArray, List.set_cons_zero, List.set_cons_succ]
                refine wpAnyH_take (i := 9) (oi := { dst := some 95, op := Op.load 3 (Operand.tmp 94), type := 3, pos := "kv.go:154", after := #[{ on := 8, ground := Ground.data }, { on := 7, ground := Ground.guard }], guard := some (7, false) }) (v := undef) rfl (by kernel_rfl) (by kernel_rfl) (by kernel_rfl) (fun _ _ _ h => h) (Or.inr ⟨by rfl, rfl⟩) hHeld ?_
                simp only [Act.put, List.setIfInBounds_toArray, List.set_cons_zero, List.set_cons_succ]
                refine wpAnyH_take (i := 10) (oi := { dst := some 96, op := Op.move (Operand.tmp 5), type := 31, pos := "kv.go:154", after := #[{ on := 7, ground := Ground.guard }], guard := some (7, false) }) (v := undef) rfl (by kernel_rfl) (by kernel_rfl) (by kernel_rfl) (fun _ _ _ h => h) (Or.inr ⟨by rfl, rfl⟩) hHeld ?_
                simp only [Act.put, List.setIfInBounds_toArray, List.set_cons_zero, List.set_cons_succ]
                refine wpAnyH_take (i := 11) (oi := { dst := some 97, op := Op.nilCheck (Operand.tmp 96), type := 0, pos := "kv.go:154", after := #[{ on := 10, ground := Ground.data }, { on := 7, ground := Ground.guard }], guard := some (7, false) }) (v := undef) rfl (by kernel_rfl) (by kernel_rfl) (by kernel_rfl) (fun _ _ _ h => h) (Or.inr ⟨by rfl, rfl⟩) hHeld ?_
                simp only [Act.put, List.setIfInBounds_toArray, List.set_cons_zero, List.set_cons_succ]
                refine wpAnyH_take (i := 12) (oi := { dst := some 98, op := Op.fieldAddr 63 (Operand.tmp 97) 1, type := 0, pos := "kv.go:154", after := #[{ on := 11, ground := Ground.data }, { on := 7, ground := Ground.guard }], guard := some (7, false) }) (v := undef) rfl (by kernel_rfl) (by kernel_rfl) (by kernel_rfl) (fun _ _ _ h => h) (Or.inr ⟨by rfl, rfl⟩) hHeld ?_
                simp only [Act.put, List.setIfInBounds_toArray, List.set_cons_zero, List.set_cons_succ]
                refine wpAnyH_take (i := 13) (oi := { dst := some 99, op := Op.load 61 (Operand.tmp 98), type := 61, pos := "kv.go:154", after := #[{ on := 12, ground := Ground.data }, { on := 7, ground := Ground.guard }], guard := some (7, false) }) (v := undef) rfl (by kernel_rfl) (by kernel_rfl) (by kernel_rfl) (fun _ _ _ h => h) (Or.inr ⟨by rfl, rfl⟩) hHeld ?_
                simp only [Act.put, List.setIfInBounds_toArray, List.set_cons_zero, List.set_cons_succ]
                refine wpAnyH_take (i := 14) (oi := { dst := some 100, op := Op.move (Operand.tmp 10), type := 3, pos := "kv.go:154", after := #[{ on := 7, ground := Ground.guard }], guard := some (7, false) }) (v := undef) rfl (by kernel_rfl) (by kernel_rfl) (by kernel_rfl) (fun _ _ _ h => h) (Or.inr ⟨by rfl, rfl⟩) hHeld ?_
                simp only [Act.put, List.setIfInBounds_toArray, List.set_cons_zero, List.set_cons_succ]
                refine wpAnyH_take (i := 15) (oi := { dst := some 101, op := Op.binOp BinOp.sub 3 (Operand.tmp 100) (Operand.const (Value.int IntKind.i64 1)) 3, type := 3, pos := "kv.go:154", after := #[{ on := 14, ground := Ground.data }, { on := 7, ground := Ground.guard }], guard := some (7, false) }) (v := undef) rfl (by kernel_rfl) (by kernel_rfl) (by kernel_rfl) (fun _ _ _ h => h) (Or.inr ⟨by rfl, rfl⟩) hHeld ?_
                simp only [Act.put, List.setIfInBounds_toArray, List.set_cons_zero, List.set_cons_succ]
                refine wpAnyH_take (i := 16) (oi := { dst := some 102, op := Op.indexAddr 61 (Operand.tmp 99) (Operand.tmp 101), type := 0, pos := "kv.go:154", after := #[{ on := 13, ground := Ground.data }, { on := 15, ground := Ground.data }, { on := 7, ground := Ground.guard }], guard := some (7, false) }) (v := undef) rfl (by kernel_rfl) (by kernel_rfl) (by kernel_rfl) (fun _ _ _ h => h) (Or.inr ⟨by rfl, rfl⟩) hHeld ?_
                simp only [Act.put, List.setIfInBounds_toArray, List.set_cons_zero, List.set_cons_succ]
                refine wpAnyH_take (i := 17) (oi := { dst := some 103, op := Op.fieldAddr 70 (Operand.tmp 102) 0, type := 0, pos := "kv.go:154", after := #[{ on := 16, ground := Ground.data }, { on := 7, ground := Ground.guard }], guard := some (7, false) }) (v := undef) rfl (by kernel_rfl) (by kernel_rfl) (by kernel_rfl) (fun _ _ _ h => h) (Or.inr ⟨by rfl, rfl⟩) hHeld ?_
                simp only [Act.put, List.setIfInBounds_toArray, List.set_cons_zero, List.set_cons_succ]
                refine wpAnyH_take (i := 18) (oi := { dst := some 104, op := Op.load 3 (Operand.tmp 103), type := 3, pos := "kv.go:154", after := #[{ on := 17, ground := Ground.data }, { on := 7, ground := Ground.guard }], guard := some (7, false) }) (v := undef) rfl (by kernel_rfl) (by kernel_rfl) (by kernel_rfl) (fun _ _ _ h => h) (Or.inr ⟨by rfl, rfl⟩) hHeld ?_
                simp only [Act.put, List.setIfInBounds_toArray, List.set_cons_zero, List.set_cons_succ]
                refine wpAnyH_take (i := 19) (oi := { dst := some 105, op := Op.binOp BinOp.gtr 3 (Operand.tmp 95) (Operand.tmp 104) 3, type := 4, pos := "kv.go:154", after := #[{ on := 9, ground := Ground.data }, { on := 18, ground := Ground.data }, { on := 7, ground := Ground.guard }], guard := some (7, false) }) (v := undef) rfl (by kernel_rfl) (by kernel_rfl) (by kernel_rfl) (fun _ _ _ h => h) (Or.inr ⟨by rfl, rfl⟩) hHeld ?_
                simp only [Act.put, List.setIfInBounds_toArray, List.set_cons_zero, List.set_cons_succ]
                refine wpAnyH_take (i := 20) (oi := { dst := some 106, op := Op.pick (Operand.tmp 93) (Operand.const (Value.bool true)) (Operand.tmp 105), type := 4, pos := "kv.go:154", after := #[{ on := 7, ground := Ground.data }, { on := 19, ground := Ground.data }, { on := 4, ground := Ground.guard }], guard := some (4, true) }) (v := undef) rfl (by kernel_rfl) (by kernel_rfl) (by kernel_rfl) (fun _ _ _ h => h) (Or.inr ⟨by rfl, rfl⟩) hHeld ?_
                simp only [Act.put, List.setIfInBounds_toArray, List.set_cons_zero, List.set_cons_succ]
                refine wpAnyH_take (i := 21) (oi := { dst := some 107, op := Op.pick (Operand.tmp 90) (Operand.tmp 106) (Operand.const (Value.bool false)), type := 4, pos := "kv.go:154", after := #[{ on := 4, ground := Ground.data }, { on := 20, ground := Ground.data }], guard := none }) (v := ?v21a) rfl (by kernel_rfl) (by kernel_rfl) (by kernel_rfl) (fun _ _ _ h => h) (Or.inl ⟨by rfl, ?h21a⟩) hHeld ?r21a
                case h21a => intro w hSw; (try dsimp only at hSw); go_simp; try with_reducible rfl
                simp only [Act.put, List.setIfInBounds_toArray, List.set_cons_zero, List.set_cons_succ]
                refine wpAnyH_ready (rs := [22]) (by kernel_rfl) (by simp) ?_
                refine AllReadyH.cons (o := { dst := some 108, op := Op.call { callee := Callee.value (Operand.func 26), args := #[Operand.tmp 86, Operand.tmp 107], argTypes := #[57, 4] }, type := 0, pos := "kv.go:154", after := #[{ on := 0, ground := Ground.data }, { on := 21, ground := Ground.data }, { on := 7, ground := Ground.chain }], guard := none }) rfl (fun K hK => ?_) ?_
                · go_simp
                  go_wp2_with (go_at_call 26; refine HFD.out.mono ?_; rintro e w8 ⟨rfl, h8, hO8⟩; have H8 : Hid (Dx W w8 Q D X (.slice va l.length vc) l sb vp (.slice sa' k sc') ⟨ps, ss⟩ (.int .i64 (cl : Int)) (.int .i64 0) (.int .i64 0) (.string ⟨#[]⟩)) := H7d.out.go h8 hO8; obtain ⟨⟨y0, -, -, -⟩, -⟩ := H8.out.box; clear h8 hO8)
                  refine hK.out _ _ y0 (fun hHeld => ?_)
                  clear hK
                  refine wpAnyH_done (by kernel_rfl) ?_ _
                  go_wp2_with fail
                  go_meet
                  exact H8.out
                exact AllReadyH.nil
              · have hcg : decide (0 < cl) = true := by simp; omega
                subst hk0; subst hb
                refine wp_region_held_drew (S := fun w' => w'.cell? ⟨X, 0, none⟩ = some (.int .i64 (cl : Int))) (by kernel_rfl) x0 (fun hHeld => ?_)
                refine wpAnyH_take (i := 0) (oi := { dst := some 86, op := Op.move (Operand.tmp 4), type := 57, pos := "kv.go:154", after := #[], guard := none }) (v := ?v0b) rfl (by kernel_rfl) (by kernel_rfl) (by kernel_rfl) (fun _ _ _ h => h) (Or.inl ⟨by rfl, ?h0b⟩) hHeld ?r0b
                case h0b => intro w hSw; (try dsimp only at hSw); go_simp; try with_reducible rfl
                simp only [Act.put, List.setIfInBounds_toArray, List.set_cons_zero, List.set_cons_succ]
                refine wpAnyH_take (i := 1) (oi := { dst := some 87, op := Op.fieldAddr 70 (Operand.tmp 11) 0, type := 0, pos := "kv.go:154", after := #[], guard := none }) (v := ?v1b) rfl (by kernel_rfl) (by kernel_rfl) (by kernel_rfl) (fun _ _ _ h => h) (Or.inl ⟨by rfl, ?h1b⟩) hHeld ?r1b
                case h1b => intro w hSw; (try dsimp only at hSw); go_simp; try with_reducible rfl
                simp only [Act.put, List.setIfInBounds_toArray, List.set_cons_zero, List.set_cons_succ]
                refine wpAnyH_take (i := 2) (oi := { dst := some 88, op := Op.load 3 (Operand.tmp 87), type := 3, pos := "kv.go:154", after := #[{ on := 1, ground := Ground.data }], guard := none }) (v := ?v2b) rfl (by kernel_rfl) (by kernel_rfl) (by kernel_rfl) (fun _ _ _ h => h) (Or.inl ⟨by rfl, ?h2b⟩) hHeld ?r2b
                case h2b => intro w hSw; (try dsimp only at hSw); go_simp; try with_reducible rfl
                simp only [Act.put, List.setIfInBounds_toArray, List.set_cons_zero, List.set_cons_succ]
                refine wpAnyH_take (i := 3) (oi := { dst := some 89, op := Op.binOp BinOp.gtr 3 (Operand.tmp 88) (Operand.const (Value.int IntKind.i64 0)) 3, type := 4, pos := "kv.go:154", after := #[{ on := 2, ground := Ground.data }], guard := none }) (v := ?v3b) rfl (by kernel_rfl) (by kernel_rfl) (by kernel_rfl) (fun _ _ _ h => h) (Or.inl ⟨by rfl, ?h3b⟩) hHeld ?r3b
                case h3b => intro w hSw; (try dsimp only at hSw); go_simp; try with_reducible rfl
                simp only [Act.put, List.setIfInBounds_toArray, List.set_cons_zero, List.set_cons_succ]
                refine wpAnyH_take (i := 4) (oi := { dst := some 90, op := Op.move (Operand.tmp 89), type := 4, pos := "kv.go:154", after := #[{ on := 3, ground := Ground.data }], guard := none }) (v := ?v4b) rfl (by kernel_rfl) (by kernel_rfl) (by kernel_rfl) (fun _ _ _ h => h) (Or.inl ⟨by rfl, ?h4b⟩) hHeld ?r4b
                case h4b => intro w hSw; (try dsimp only at hSw); go_simp; try with_reducible rfl
                simp only [Act.put, List.setIfInBounds_toArray, List.set_cons_zero, List.set_cons_succ]
                refine wpAnyH_take (i := 5) (oi := { dst := some 91, op := Op.move (Operand.tmp 10), type := 3, pos := "kv.go:154", after := #[{ on := 4, ground := Ground.guard }], guard := some (4, true) }) (v := ?v5b) rfl (by kernel_rfl) (by kernel_rfl) (by kernel_rfl) (fun _ _ _ h => h) (Or.inl ⟨by rfl, ?h5b⟩) hHeld ?r5b
                case h5b => intro w hSw; (try dsimp only at hSw); go_simp; try with_reducible rfl
                simp only [Act.put, List.setIfInBounds_toArray, List.set_cons_zero, List.set_cons_succ]
                refine wpAnyH_take (i := 6) (oi := { dst := some 92, op := Op.binOp BinOp.eql 3 (Operand.tmp 91) (Operand.const (Value.int IntKind.i64 0)) 3, type := 4, pos := "kv.go:154", after := #[{ on := 5, ground := Ground.data }, { on := 4, ground := Ground.guard }], guard := some (4, true) }) (v := ?v6b) rfl (by kernel_rfl) (by kernel_rfl) (by kernel_rfl) (fun _ _ _ h => h) (Or.inl ⟨by rfl, ?h6b⟩) hHeld ?r6b
                case h6b => intro w hSw; (try dsimp only at hSw); go_simp; try with_reducible rfl
                simp only [Act.put, List.setIfInBounds_toArray, List.set_cons_zero, List.set_cons_succ]
                refine wpAnyH_take (i := 7) (oi := { dst := some 93, op := Op.move (Operand.tmp 92), type := 4, pos := "kv.go:154", after := #[{ on := 6, ground := Ground.data }, { on := 4, ground := Ground.chain }, { on := 4, ground := Ground.guard }], guard := some (4, true) }) (v := ?v7b) rfl (by kernel_rfl) (by kernel_rfl) (by kernel_rfl) (fun _ _ _ h => h) (Or.inl ⟨by rfl, ?h7b⟩) hHeld ?r7b
                case h7b => intro w hSw; (try dsimp only at hSw); go_simp; try with_reducible rfl
                simp only [Act.put, List.setIfInBounds_toArray, List.set_cons_zero, List.set_cons_succ]
                refine wpAnyH_take (i := 8) (oi := { dst := some 94, op := Op.fieldAddr 70 (Operand.tmp 11) 0, type := 0, pos := "kv.go:154", after := #[{ on := 7, ground := Ground.guard }], guard := some (7, false) }) (v := undef) rfl (by kernel_rfl) (by kernel_rfl) (by kernel_rfl) (fun _ _ _ h => h) (Or.inr ⟨by rfl, rfl⟩) hHeld ?_
                simp only [Act.put, List.setIfInBounds_toArray, List.set_cons_zero, List.set_cons_succ]
                refine wpAnyH_take (i := 9) (oi := { dst := some 95, op := Op.load 3 (Operand.tmp 94), type := 3, pos := "kv.go:154", after := #[{ on := 8, ground := Ground.data }, { on := 7, ground := Ground.guard }], guard := some (7, false) }) (v := undef) rfl (by kernel_rfl) (by kernel_rfl) (by kernel_rfl) (fun _ _ _ h => h) (Or.inr ⟨by rfl, rfl⟩) hHeld ?_
                simp only [Act.put, List.setIfInBounds_toArray, List.set_cons_zero, List.set_cons_succ]
                refine wpAnyH_take (i := 10) (oi := { dst := some 96, op := Op.move (Operand.tmp 5), type := 31, pos := "kv.go:154", after := #[{ on := 7, ground := Ground.guard }], guard := some (7, false) }) (v := undef) rfl (by kernel_rfl) (by kernel_rfl) (by kernel_rfl) (fun _ _ _ h => h) (Or.inr ⟨by rfl, rfl⟩) hHeld ?_
                simp only [Act.put, List.setIfInBounds_toArray, List.set_cons_zero, List.set_cons_succ]
                refine wpAnyH_take (i := 11) (oi := { dst := some 97, op := Op.nilCheck (Operand.tmp 96), type := 0, pos := "kv.go:154", after := #[{ on := 10, ground := Ground.data }, { on := 7, ground := Ground.guard }], guard := some (7, false) }) (v := undef) rfl (by kernel_rfl) (by kernel_rfl) (by kernel_rfl) (fun _ _ _ h => h) (Or.inr ⟨by rfl, rfl⟩) hHeld ?_
                simp only [Act.put, List.setIfInBounds_toArray, List.set_cons_zero, List.set_cons_succ]
                refine wpAnyH_take (i := 12) (oi := { dst := some 98, op := Op.fieldAddr 63 (Operand.tmp 97) 1, type := 0, pos := "kv.go:154", after := #[{ on := 11, ground := Ground.data }, { on := 7, ground := Ground.guard }], guard := some (7, false) }) (v := undef) rfl (by kernel_rfl) (by kernel_rfl) (by kernel_rfl) (fun _ _ _ h => h) (Or.inr ⟨by rfl, rfl⟩) hHeld ?_
                simp only [Act.put, List.setIfInBounds_toArray, List.set_cons_zero, List.set_cons_succ]
                refine wpAnyH_take (i := 13) (oi := { dst := some 99, op := Op.load 61 (Operand.tmp 98), type := 61, pos := "kv.go:154", after := #[{ on := 12, ground := Ground.data }, { on := 7, ground := Ground.guard }], guard := some (7, false) }) (v := undef) rfl (by kernel_rfl) (by kernel_rfl) (by kernel_rfl) (fun _ _ _ h => h) (Or.inr ⟨by rfl, rfl⟩) hHeld ?_
                simp only [Act.put, List.setIfInBounds_toArray, List.set_cons_zero, List.set_cons_succ]
                refine wpAnyH_take (i := 14) (oi := { dst := some 100, op := Op.move (Operand.tmp 10), type := 3, pos := "kv.go:154", after := #[{ on := 7, ground := Ground.guard }], guard := some (7, false) }) (v := undef) rfl (by kernel_rfl) (by kernel_rfl) (by kernel_rfl) (fun _ _ _ h => h) (Or.inr ⟨by rfl, rfl⟩) hHeld ?_
                simp only [Act.put, List.setIfInBounds_toArray, List.set_cons_zero, List.set_cons_succ]
                refine wpAnyH_take (i := 15) (oi := { dst := some 101, op := Op.binOp BinOp.sub 3 (Operand.tmp 100) (Operand.const (Value.int IntKind.i64 1)) 3, type := 3, pos := "kv.go:154", after := #[{ on := 14, ground := Ground.data }, { on := 7, ground := Ground.guard }], guard := some (7, false) }) (v := undef) rfl (by kernel_rfl) (by kernel_rfl) (by kernel_rfl) (fun _ _ _ h => h) (Or.inr ⟨by rfl, rfl⟩) hHeld ?_
                simp only [Act.put, List.setIfInBounds_toArray, List.set_cons_zero, List.set_cons_succ]
                refine wpAnyH_take (i := 16) (oi := { dst := some 102, op := Op.indexAddr 61 (Operand.tmp 99) (Operand.tmp 101), type := 0, pos := "kv.go:154", after := #[{ on := 13, ground := Ground.data }, { on := 15, ground := Ground.data }, { on := 7, ground := Ground.guard }], guard := some (7, false) }) (v := undef) rfl (by kernel_rfl) (by kernel_rfl) (by kernel_rfl) (fun _ _ _ h => h) (Or.inr ⟨by rfl, rfl⟩) hHeld ?_
                simp only [Act.put, List.setIfInBounds_toArray, List.set_cons_zero, List.set_cons_succ]
                refine wpAnyH_take (i := 17) (oi := { dst := some 103, op := Op.fieldAddr 70 (Operand.tmp 102) 0, type := 0, pos := "kv.go:154", after := #[{ on := 16, ground := Ground.data }, { on := 7, ground := Ground.guard }], guard := some (7, false) }) (v := undef) rfl (by kernel_rfl) (by kernel_rfl) (by kernel_rfl) (fun _ _ _ h => h) (Or.inr ⟨by rfl, rfl⟩) hHeld ?_
                simp only [Act.put, List.setIfInBounds_toArray, List.set_cons_zero, List.set_cons_succ]
                refine wpAnyH_take (i := 18) (oi := { dst := some 104, op := Op.load 3 (Operand.tmp 103), type := 3, pos := "kv.go:154", after := #[{ on := 17, ground := Ground.data }, { on := 7, ground := Ground.guard }], guard := some (7, false) }) (v := undef) rfl (by kernel_rfl) (by kernel_rfl) (by kernel_rfl) (fun _ _ _ h => h) (Or.inr ⟨by rfl, rfl⟩) hHeld ?_
                simp only [Act.put, List.setIfInBounds_toArray, List.set_cons_zero, List.set_cons_succ]
                refine wpAnyH_take (i := 19) (oi := { dst := some 105, op := Op.binOp BinOp.gtr 3 (Operand.tmp 95) (Operand.tmp 104) 3, type := 4, pos := "kv.go:154", after := #[{ on := 9, ground := Ground.data }, { on := 18, ground := Ground.data }, { on := 7, ground := Ground.guard }], guard := some (7, false) }) (v := undef) rfl (by kernel_rfl) (by kernel_rfl) (by kernel_rfl) (fun _ _ _ h => h) (Or.inr ⟨by rfl, rfl⟩) hHeld ?_
                simp only [Act.put, List.setIfInBounds_toArray, List.set_cons_zero, List.set_cons_succ]
                refine wpAnyH_take (i := 20) (oi := { dst := some 106, op := Op.pick (Operand.tmp 93) (Operand.const (Value.bool true)) (Operand.tmp 105), type := 4, pos := "kv.go:154", after := #[{ on := 7, ground := Ground.data }, { on := 19, ground := Ground.data }, { on := 4, ground := Ground.guard }], guard := some (4, true) }) (v := ?v20b) rfl (by kernel_rfl) (by kernel_rfl) (by kernel_rfl) (fun _ _ _ h => h) (Or.inl ⟨by rfl, ?h20b⟩) hHeld ?r20b
                case h20b => intro w hSw; (try dsimp only at hSw); go_simp; try with_reducible rfl
                simp only [Act.put, List.setIfInBounds_toArray, List.set_cons_zero, List.set_cons_succ]
                refine wpAnyH_take (i := 21) (oi := { dst := some 107, op := Op.pick (Operand.tmp 90) (Operand.tmp 106) (Operand.const (Value.bool false)), type := 4, pos := "kv.go:154", after := #[{ on := 4, ground := Ground.data }, { on := 20, ground := Ground.data }], guard := none }) (v := ?v21b) rfl (by kernel_rfl) (by kernel_rfl) (by kernel_rfl) (fun _ _ _ h => h) (Or.inl ⟨by rfl, ?h21b⟩) hHeld ?r21b
                case h21b => intro w hSw; (try dsimp only at hSw); go_simp; try with_reducible rfl
                simp only [Act.put, List.setIfInBounds_toArray, List.set_cons_zero, List.set_cons_succ]
                refine wpAnyH_ready (rs := [22]) (by kernel_rfl) (by simp) ?_
                refine AllReadyH.cons (o := { dst := some 108, op := Op.call { callee := Callee.value (Operand.func 26), args := #[Operand.tmp 86, Operand.tmp 107], argTypes := #[57, 4] }, type := 0, pos := "kv.go:154", after := #[{ on := 0, ground := Ground.data }, { on := 21, ground := Ground.data }, { on := 7, ground := Ground.chain }], guard := none }) rfl (fun K hK => ?_) ?_
                · go_simp
                  go_wp2_with (go_at_call 26; refine HFD.out.mono ?_; rintro e w8 ⟨rfl, h8, hO8⟩; have H8 : Hid (Dx W w8 Q D X (.slice va l.length vc) l sb vp (.slice sa' 0 sc') ⟨ps, ss⟩ (.int .i64 (cl : Int)) (.int .i64 0) (.int .i64 0) (.string ⟨#[]⟩)) := H7d.out.go h8 hO8; obtain ⟨⟨y0, -, -, -⟩, -⟩ := H8.out.box; clear h8 hO8)
                  refine hK.out _ _ y0 (fun hHeld => ?_)
                  clear hK
                  refine wpAnyH_done (by kernel_rfl) ?_ _
                  go_wp2_with fail
                  go_meet
                  exact H8.out
                exact AllReadyH.nil
              · have hcg : decide (0 < cl) = true := by simp; omega
                subst hk0; subst hpa
                have i1 : ((k' : Int) + 1 == 0) = false := beq_eq_false_iff_ne.2 (by omega)
                have i2 : (0 : Int) ≤ (k' : Int) := by omega
                have i3 : (k' : Int) < ((k' + 1 : Nat) : Int) := by omega
                have i4 : IntKind.i64.wrap (k' : Int) = (k' : Int) := by rw [IntKind.wrap_i64]; omega
                have i5 : (k' : Int) < (k' : Int) + 1 := by omega
                have i6 : IntKind.i64.wrap ((k' : Int) + 1 - 1) = (k' : Int) := by rw [IntKind.wrap_i64]; omega
                have HGC : Hid (∀ V, Dx W V Q D X (.slice va l.length vc) l sb vp (.slice (some ⟨g, 0, none⟩) (k' + 1) sc') ⟨ps, ss⟩ (.int .i64 (cl : Int)) (.int .i64 0) (.int .i64 0) (.string ⟨#[]⟩) → Out (fun i => i = Q) w7.drew V → V.cell? ⟨g, k' * 4, none⟩ = some (.int .i64 pc)) := fun V hV hO => by
                  have hgq : g ≠ Q := fun e => H7.out.db.apS.1 (by rw [e]; rfl)
                  exact ((hO.cell (r := g) (o := k' * 4) (by exact hgl) hgq).1).trans hcl
                go_region_held3 (fun w' => w'.cell? ⟨X, 0, none⟩ = some (.int .i64 (cl : Int)) ∧ w'.cell? ⟨D, 1, none⟩ = some (.slice (some ⟨g, 0, none⟩) (k' + 1) sc') ∧ w'.cell? ⟨g, k' * 4, none⟩ = some (.int .i64 pc)) (go_keep)
                  (first | (go_at_call 26; refine HFD.out.mono ?_; rintro e w8 ⟨rfl, h8, hO8⟩; have H8 : Hid (Dx W w8 Q D X (.slice va l.length vc) l sb vp (.slice (some ⟨g, 0, none⟩) (k' + 1) sc') ⟨ps, ss⟩ (.int .i64 (cl : Int)) (.int .i64 0) (.int .i64 0) (.string ⟨#[]⟩)) := H7d.out.go h8 hO8; obtain ⟨⟨y0, -, -, -⟩, -⟩ := H8.out.box; obtain ⟨-, y1, -, -, -⟩ := H8.out.db.cells; have y2 := HGC.out w8 H8.out hO8; clear h8 hO8) | fail)
                all_goals go_wp2_with fail
                all_goals go_meet
                all_goals exact H8.out
            case rest =>
              have H8 : Hid (Dx W wc Q D X (.slice va l.length vc) l sb vp (.slice sa' k sc') ⟨ps, ss⟩ (.int .i64 (cl : Int)) (.int .i64 0) (.int .i64 0) (.string ⟨#[]⟩)) := hcut
              clear hcut hge HFD H7d H7 HF1 x0 x1 x2 x3 d0 d1 d2 hXl hDl H6 HW7 HX
              obtain ⟨w8, HW8⟩ : ∃ w8, Hid (wc = w8) := ⟨_, rfl⟩
              rw [HW8.out] at H8 ⊢
              clear HW8
              go_wp2_with fail
              refine (HI2.out _ H8.out.db.rq).mono ?_
              rintro e w9 ⟨rfl, h9, hO9⟩
              have H9 : Hid (Dx W w9 Q D X (.slice va l.length vc) l sc vp (.slice sa' k sc') ⟨ps, ss⟩ (.int .i64 (cl : Int)) (.int .i64 0) (.int .i64 0) (.string ⟨#[]⟩)) := H8.out.go h9 hO9
              clear HI2 h9 hO9 H8
              obtain ⟨⟨x0, x1, x2, x3⟩, f0, f1, f2, f3⟩ := H9.out.box
              obtain ⟨wa, HWa⟩ : ∃ wa, Hid (w9.setCell ⟨X, 1, none⟩ (.int .i64 (sq : Int)) = wa) := ⟨_, rfl⟩
              have Ha : Hid (Dx W wa Q D X (.slice va l.length vc) l sc vp (.slice sa' k sc') ⟨ps, ss⟩ (.int .i64 (cl : Int)) (.int .i64 (sq : Int)) (.int .i64 0) (.string ⟨#[]⟩)) := by rw [← HWa.out]; exact H9.out.set1 _
              obtain ⟨⟨y0, y1, y2, y3⟩, -⟩ := Ha.out.box
              go_upto_region 17 with fail
              rw [HWa.out]
              clear HWa H9 x0 x1 x2 x3 f0 f1 f2 f3
              go_wp2_with fail
              try rw [h2]
              refine (HF2.out _ Ha.out.db.rq).mono ?_
              rintro e wb ⟨rfl, hb, hOb⟩
              have Hb : Hid (Dx W wb Q D X (.slice va l.length vc) l sd vp (.slice sa' k sc') ⟨ps, ss⟩ (.int .i64 (cl : Int)) (.int .i64 (sq : Int)) (.int .i64 0) (.string ⟨#[]⟩)) := Ha.out.go hb hOb
              clear HF2 hb hOb Ha y0 y1 y2 y3 h2
              go_wp2_with fail
              refine (HI3.out _ Hb.out.db.rq).mono ?_
              rintro e w9 ⟨rfl, h9, hO9⟩
              have H9 : Hid (Dx W w9 Q D X (.slice va l.length vc) l se vp (.slice sa' k sc') ⟨ps, ss⟩ (.int .i64 (cl : Int)) (.int .i64 (sq : Int)) (.int .i64 0) (.string ⟨#[]⟩)) := Hb.out.go h9 hO9
              clear HI3 h9 hO9 Hb
              obtain ⟨⟨x0, x1, x2, x3⟩, f0, f1, f2, f3⟩ := H9.out.box
              obtain ⟨wa, HWa⟩ : ∃ wa, Hid (w9.setCell ⟨X, 2, none⟩ (.int .i64 (co : Int)) = wa) := ⟨_, rfl⟩
              have Ha : Hid (Dx W wa Q D X (.slice va l.length vc) l se vp (.slice sa' k sc') ⟨ps, ss⟩ (.int .i64 (cl : Int)) (.int .i64 (sq : Int)) (.int .i64 (co : Int)) (.string ⟨#[]⟩)) := by rw [← HWa.out]; exact H9.out.set2 _
              obtain ⟨⟨y0, y1, y2, y3⟩, -⟩ := Ha.out.box
              go_upto_region 19 with fail
              rw [HWa.out]
              clear HWa H9 x0 x1 x2 x3 f0 f1 f2 f3
              go_upto_region 20 with fail
              go_cut [] from 71 to 163 (fun wx => Dx W wx Q D X (.slice va l.length vc) l sf vp (.slice sa' k sc') ⟨ps, ss⟩ (.int .i64 (cl : Int)) (.int .i64 (sq : Int)) (.int .i64 (co : Int)) (.string ⟨#[]⟩))
              case first =>
                rcases (by unfold keptB at HB3; have := HB3.out; by_cases a1 : co = 1; exact .inl a1; by_cases a2 : co = 2; exact .inr (.inl a2); by_cases a3 : co = 3; exact .inr (.inr (.inl a3)); by_cases a5 : co = 5; exact .inr (.inr (.inr (.inl a5))); exact .inr (.inr (.inr (.inr ⟨a1, a2, a3, a5⟩))) : co = 1 ∨ co = 2 ∨ co = 3 ∨ co = 5 ∨ (co ≠ 1 ∧ co ≠ 2 ∧ co ≠ 3 ∧ co ≠ 5)) with q | q | q | q | ⟨q1, q2, q3, q5⟩
                all_goals
                  try subst q
                  have hb3 : keptB _ = b3 := HB3.out
                  first
                    | (have q1' : ((co : Int) == 1) = false := (by simp; omega)
                       have q2' : ((co : Int) == 2) = false := (by simp; omega)
                       have q3' : ((co : Int) == 3) = false := (by simp; omega)
                       have q5' : ((co : Int) == 5) = false := (by simp; omega)
                       have hb3' : b3 = false := (by rw [← hb3]; unfold keptB; simp [q1, q2, q3, q5])
                       subst hb3')
                    | (have hb3' : b3 = true := (by rw [← hb3]; rfl)
                       subst hb3')
                  clear hb3 HB3
                  go_wp2_with fail
                  refine (HF3.out _ Ha.out.db.rq).mono ?_
                  rintro e wb ⟨rfl, hb, hOb⟩
                  have Hb : Hid (Dx W wb Q D X (.slice va l.length vc) l sf vp (.slice sa' k sc') ⟨ps, ss⟩ _ _ _ _) := Ha.out.go hb hOb
                  go_wp2_with fail
                  go_meet
                  exact Hb.out
              case rest =>
                have Hb : Hid (Dx W wc Q D X (.slice va l.length vc) l sf vp (.slice sa' k sc') ⟨ps, ss⟩ (.int .i64 (cl : Int)) (.int .i64 (sq : Int)) (.int .i64 (co : Int)) (.string ⟨#[]⟩)) := hcut
                clear hcut HF3 HB3 Ha y0 y1 y2 y3
                obtain ⟨wb, HWb⟩ : ∃ wb, Hid (wc = wb) := ⟨_, rfl⟩
                rw [HWb.out] at Hb ⊢
                clear HWb
                go_wp2_with fail
                refine (HT.out _ Hb.out.db.rq).mono ?_
                rintro e w9 ⟨rfl, h9, hO9⟩
                have H9 : Hid (Dx W w9 Q D X (.slice va l.length vc) l sg vp (.slice sa' k sc') ⟨ps, ss⟩ (.int .i64 (cl : Int)) (.int .i64 (sq : Int)) (.int .i64 (co : Int)) (.string ⟨#[]⟩)) := Hb.out.go h9 hO9
                clear HT h9 hO9 Hb
                obtain ⟨⟨x0, x1, x2, x3⟩, f0, f1, f2, f3⟩ := H9.out.box
                obtain ⟨wa, HWa⟩ : ∃ wa, Hid (w9.setCell ⟨X, 3, none⟩ (.string ⟨vl.toArray⟩) = wa) := ⟨_, rfl⟩
                have Ha : Hid (Dx W wa Q D X (.slice va l.length vc) l sg vp (.slice sa' k sc') ⟨ps, ss⟩ (.int .i64 (cl : Int)) (.int .i64 (sq : Int)) (.int .i64 (co : Int)) (.string ⟨vl.toArray⟩)) := by rw [← HWa.out]; exact H9.out.set3 _
                obtain ⟨⟨y0, y1, y2, y3⟩, -⟩ := Ha.out.box
                go_upto_region 22 with fail
                rw [HWa.out]
                clear HWa H9 x0 x1 x2 x3 f0 f1 f2 f3
                go_cut [] from 71 to 163 (fun wx => Dx W wx Q D X (.slice va l.length vc) l sh vp (.slice sa' k sc') ⟨ps, ss⟩ (.int .i64 (cl : Int)) (.int .i64 (sq : Int)) (.int .i64 (co : Int)) (.string ⟨vl.toArray⟩))
                case first =>
                  have hq : (vl = [] ∧ b4 = true) ∨ (vl ≠ [] ∧ co = 3 ∧ b4 = true) ∨ (vl ≠ [] ∧ co ≠ 3 ∧ b4 = false) := by
                    have := HB4.out
                    by_cases a1 : vl = []
                    · exact .inl ⟨a1, by rw [← this]; simp [a1]⟩
                    · by_cases a2 : co = 3
                      · exact .inr (.inl ⟨a1, a2, by rw [← this]; simp [a2]⟩)
                      · exact .inr (.inr ⟨a1, a2, by rw [← this]; simp [a1, a2]⟩)
                  rcases hq with ⟨a1, a4⟩ | ⟨a1, a2, a4⟩ | ⟨a1, a2, a4⟩
                  · subst a1; subst a4
                    go_wp2_with fail
                    refine (HF4.out _ Ha.out.db.rq).mono ?_
                    rintro e wb ⟨rfl, hb, hOb⟩
                    have Hb : Hid (Dx W wb Q D X (.slice va l.length vc) l sh vp (.slice sa' k sc') ⟨ps, ss⟩ _ _ _ _) := Ha.out.go hb hOb
                    go_wp2_with fail
                    go_meet
                    exact Hb.out
                  · subst a2; subst a4
                    have a1' := beq_eq_false_iff_ne.2 a1
                    go_wp2_with fail
                    refine (HF4.out _ Ha.out.db.rq).mono ?_
                    rintro e wb ⟨rfl, hb, hOb⟩
                    have Hb : Hid (Dx W wb Q D X (.slice va l.length vc) l sh vp (.slice sa' k sc') ⟨ps, ss⟩ _ _ _ _) := Ha.out.go hb hOb
                    go_wp2_with fail
                    go_meet
                    exact Hb.out
                  · subst a4
                    have a1' := beq_eq_false_iff_ne.2 a1
                    have a2' : ((co : Int) == 3) = false := by simp; omega
                    go_wp2_with fail
                    refine (HF4.out _ Ha.out.db.rq).mono ?_
                    rintro e wb ⟨rfl, hb, hOb⟩
                    have Hb : Hid (Dx W wb Q D X (.slice va l.length vc) l sh vp (.slice sa' k sc') ⟨ps, ss⟩ _ _ _ _) := Ha.out.go hb hOb
                    go_wp2_with fail
                    go_meet
                    exact Hb.out
                case rest =>
                  have Hb : Hid (Dx W wc Q D X (.slice va l.length vc) l sh vp (.slice sa' k sc') ⟨ps, ss⟩ (.int .i64 (cl : Int)) (.int .i64 (sq : Int)) (.int .i64 (co : Int)) (.string ⟨vl.toArray⟩)) := hcut
                  clear hcut HF4 HB4 Ha y0 y1 y2 y3
                  obtain ⟨wb, HWb⟩ : ∃ wb, Hid (wc = wb) := ⟨_, rfl⟩
                  rw [HWb.out] at Hb ⊢
                  clear HWb
                  have Hbd : Hid (Dx W wb.drew Q D X (.slice va l.length vc) l sh vp (.slice sa' k sc') ⟨ps, ss⟩ (.int .i64 (cl : Int)) (.int .i64 (sq : Int)) (.int .i64 (co : Int)) (.string ⟨vl.toArray⟩)) := Hb.out.below (Below.drew' (Below.refl _ _))
                  obtain ⟨⟨x0, x1, x2, x3⟩, -⟩ := Hbd.out.box
                  obtain ⟨d0, d1, d2, -, -⟩ := Hbd.out.db.cells
                  obtain ⟨⟨y0, y1, y2, y3⟩, -⟩ := Hb.out.box
                  obtain ⟨g0, g1, g2, -, -⟩ := Hb.out.db.cells
                  have hXl : X < wb.heap.size := Hb.out.lt
                  have hDl : D < wb.heap.size := Hb.out.db.lt
                  have HP9 : Hid (ss.length ≤ 1000000000) := by show ss.length ≤ 1000000000; rw [HPL.out]; omega
                  go_wp2_with fail
                  go_region_law
                    (first
                      | (refine step_append_ro RT rfl (.tmp 158) (.tmp 160) rfl W.heap.size (.slice sa' k sc') ss ⟨(cl : Int), (sq : Int), ⟨(co : Int), vl⟩⟩ rfl Hbd.out.db.rs rfl rfl HP9.out Hbd.out.db.rq.bel.size ?_; intro v7 W7 hR7 hg7 ho7; obtain ⟨u0, u1, f0, f1⟩ := Hbd.out.db.grew ((Below.refl _ _).alloc (Nat.le_refl _) _) hg7 Hbd.out.db.apS.2; have H7 : Hid (Db W (W7.setCell ⟨D, 1, none⟩ v7) Q D (.slice va l.length vc) l sh vp v7 ⟨ps, ss ++ [⟨(cl : Int), (sq : Int), ⟨(co : Int), vl⟩⟩]⟩) := Hbd.out.db.pushS ((Below.refl _ _).alloc (Nat.le_refl _) _) hg7 hR7; obtain ⟨a7, c7, hv7, -, -⟩ := hR7.shape; rw [List.length_append, List.length_singleton] at hv7; subst hv7; clear hR7 hg7 ho7)
                      | fail)
                  all_goals
                    go_wp2
                    go_roundw
                    case rel => exact ⟨k + 1, ss ++ [⟨(cl : Int), (sq : Int), ⟨(co : Int), vl⟩⟩], sh, _, by go_num, by omega, by rw [List.length_append, HPL.out]; rfl, (fun x hx => by rcases List.mem_append.1 hx with h | h; exact HNN.out x h; (simp at h; subst h; dsimp only; omega)), by have := HN.out; rw [HSD.out] at this; exact this, fun _ => hm32, H7.out⟩
                    case measure => simp [intOf]; omega
          · have HDQ : Hid (docS l = (ss, s)) := by
              show docS l = (ss, s)
              rw [← HWH.out, whl_stop he]
            have hlt' : (k : Int) < (m : Int) := by omega
            have he' : ((s.2 : Int) == 0) = false := by simpa using he
            clear HWH
            go_wp2
            go_meet
            exact ⟨ss, s, vs, HDQ.out, HDb.out⟩
        · have HDQ : Hid (docS l = (ss, s)) := by
            show docS l = (ss, s)
            have hkm : m - k = 0 := by omega
            rw [← HWH.out, hkm]; rfl
          have hlt' : ¬ (k : Int) < (m : Int) := by omega
          clear HWH
          go_wp2
          go_meet
          exact ⟨ss, s, vs, HDQ.out, HDb.out⟩
    case rest =>
      obtain ⟨ss, s3, vs, hds, hDb⟩ := hcut
      have HDE : Hid (docE l = doneE l s3.1 s3.2 ∧ docK l = ⟨ps, ss⟩) := by
        constructor
        · unfold docE; rw [hds]
        · unfold docK; rw [hds, HDP1.out]
      have H6 : Hid (Db W wc Q D (.slice va l.length vc) l s3 vp vs ⟨ps, ss⟩) := hDb
      have CD := rxDone_any (s := s3) hDb.rq
      clear hds hDb H5 HDS hcn2 HDP1
      go_wp2_with fail
      refine CD.mono ?_
      rintro e w9 ⟨rfl, hB9⟩
      have H9 : Hid (Db W w9 Q D (.slice va l.length vc) l s3 vp vs ⟨ps, ss⟩) := H6.out.below hB9
      clear CD hB9 H6
      generalize doneE l s3.1 s3.2 = en at *
      by_cases hen : en = 0
      · subst hen
        go_wp2
        go_ret2
        refine ⟨H9.out.rq.bel, .inr ⟨HDE.out.1, D, vp, vs, rfl, H9.out.hd, ?_, ?_, H9.out.low⟩⟩
        · rw [HDE.out.2]; exact H9.out.rp
        · rw [HDE.out.2]; exact H9.out.rs
      · have hen' : ((en : Int) != 0) = true := by simpa using hen
        go_wp2
        go_ret2
        exact ⟨H9.out.rq.bel, .inl ⟨by rw [HDE.out.1]; exact hen, by rw [HDE.out.1]; rfl⟩⟩
end Go.Proofs.YtglhjgfaelfleaaGreat
