/-
  TrackHas: the walk.
-/
import Derived.Test.YtdgaimiggejleaaPk
namespace Go.Proofs.Ytdgaimiggejleaa
open Go.RowKit
set_option linter.unusedVariables false

theorem Ow.poke {N : Nat} {w : World} {g L c : Nat} {l : List Int} (h : Ow N w (.slice (some ⟨g, 0, none⟩) L c) l) (k : Nat) (x : Int) : Ow N (w.setCell ⟨g, k, none⟩ (.int .i64 x)) (.slice (some ⟨g, 0, none⟩) L c) (l.set k x) := by
  rcases h.2 with ⟨hv, _⟩ | ⟨g', cap, cur, hv, hN, hb, h1, h2, h3, h4⟩
  · cases hv
  · cases hv
    simp only [Nat.mul_one] at h3 h4
    refine ⟨by simp, .inr ⟨g, c, cur.setIfInBounds k (.int .i64 x), by simp, hN, heap_set hb k _, by simpa using h1, h2, by simpa using h3, ?_⟩⟩
    simp only [Nat.mul_one, Array.toList_setIfInBounds, List.length_set]
    rw [List.take_set, h4, List.map_set]
theorem red (m : Nat) (hm : 1 ≤ m) (hm2 : m ≤ 1000) (r : Int) : ∃ (x : Int) (A : Nat), r.tmod (m : Int) = x ∧ IntKind.i64.wrap (x + (m : Int)) = x + (m : Int) ∧ (x + (m : Int)).tmod (m : Int) = (A : Int) ∧ A < m := by
  have h1 : -(m : Int) < r.tmod (m : Int) := by
    have h := Int.natAbs_tmod r (m : Int)
    have h' := Nat.mod_lt r.natAbs (y := (m : Int).natAbs) (by omega)
    rw [← h] at h'
    omega
  have h2 : r.tmod (m : Int) < (m : Int) := Int.tmod_lt_of_pos r (by omega)
  have h3 : 0 ≤ (r.tmod (m : Int) + (m : Int)).tmod (m : Int) := Int.tmod_nonneg _ (by omega)
  have h4 : (r.tmod (m : Int) + (m : Int)).tmod (m : Int) < (m : Int) := Int.tmod_lt_of_pos _ (by omega)
  refine ⟨_, ((r.tmod (m : Int) + (m : Int)).tmod (m : Int)).toNat, rfl, ?_, by omega, by omega⟩
  rw [IntKind.wrap_i64]; omega


theorem ow_empty (w : World) : Ow w.heap.size (w.alloc (.cells #[] 3)) (.slice (some ⟨w.heap.size, 0, none⟩) 0 0) [] :=
  ⟨rfl, .inr ⟨w.heap.size, 0, #[], rfl, Nat.le_refl _, heap_alloc_new w _, by simp, by unfold maxLen; omega, by simp, by simp⟩⟩
theorem Ow.at0 {N : Nat} {w : World} {v : Value} {l : List Int} (h : Ow N w v l) (hl : 0 < l.length) : ∃ g c, v = .slice (some ⟨g, 0, none⟩) l.length c ∧ N ≤ g ∧ (∀ k, k < l.length → w.cell? ⟨g, k, none⟩ = some (.int .i64 (l[k]?.getD 0))) ∧ ∀ k, w.frozen? ⟨g, k, none⟩ = false := by
  have h' := h
  rcases h.2 with ⟨hv, h0⟩ | ⟨g', cap, cur, rfl, hN, hb, h1, h2, h3, h4⟩
  · omega
  · obtain ⟨a, c, hv, -, -, hc⟩ := h'.sl (Nat.le_refl _)
    cases hv
    obtain ⟨b, off, e, -, hc⟩ := hc.resolve_left (by intro e; rw [e] at hl; simp at hl)
    cases e
    exact ⟨g', _, rfl, hN, fun k hk => by have := hc k hk; simpa using this, fun k => by simp [World.frozen?, hb]⟩

set_option maxRecDepth 100000 in
set_option maxHeartbeats 8000000 in
theorem has_walk (z1 z2 : Int) (a0 : Option Addr) (cap : Nat) (l : List Int) (w : World) (hs : Sl w.heap.size w (.slice a0 l.length cap) l) :
    Calls Try.prog 7 #[.slice a0 l.length cap, .int .i64 z1, .int .i64 z2] w fun e w' => e = .returned (.bool true) ∧ Below w.heap.size w w' := by
  have HF : Hid (Calls _ _ _ _ _) := first_any w
  have HSL : Hid (∀ w', Below w.heap.size w w' → Sl w.heap.size w' (.slice a0 l.length cap) l) := fun w' hB => hs.below hB
  have hm : cap ≤ maxLen := by obtain ⟨a, c, e, -, h3, -⟩ := hs; cases e; exact h3
  clear hs
  go_enter Try.func7, Try.ntmps7
  go_wp2_with fail
  refine HF.out.mono ?_
  rintro r w1 ⟨rfl, hB1⟩
  have HB1 : Hid (Below w.heap.size w w1) := hB1
  clear hB1 HF
  by_cases hz : l.length = 0
  · have hzz : ((l.length : Int) == 0) = true := by simp [hz]
    go_wp2
    go_ret
    exact ⟨rfl, HB1.out⟩
  by_cases h7 : l.length ≤ 7
  · have hzz : ((l.length : Int) == 0) = false := by simpa using hz
    have hp : 0 < l.length := by omega
    obtain ⟨g, off, ha0, hg, -⟩ : ∃ g off, a0 = some ⟨g, off, none⟩ ∧ g < w.heap.size ∧ True := by
      obtain ⟨a, c, e, -, -, h3⟩ := HSL.out w (Below.refl _ _)
      cases e
      obtain ⟨b, off, h4, h5, -⟩ := h3.resolve_left (by intro e; rw [e] at hz; simp at hz)
      exact ⟨b, off, h4, h5, trivial⟩
    subst ha0
    have HCE : Hid (∀ w', Below w.heap.size w w' → ∀ i, i < l.length → w'.cell? ⟨g, off + i, none⟩ = some (.int .i64 (l[i]?.getD 0))) := fun w' hB i hi => by
      obtain ⟨a, c, e, -, -, h3⟩ := HSL.out w' hB
      cases e
      obtain ⟨b, o2, h4, h5, h6⟩ := h3.resolve_left (by intro e; rw [e] at hz; simp at hz)
      cases h4
      exact h6 i hi
    go_wp2
    clear hzz
    go_loopw [8] (fun iv wr => ∃ k : Nat, iv = .int .i64 (k : Int) ∧ k ≤ l.length ∧ wr = w1) (fun iv _ => l.length - (intOf iv).toNat)
    case atStart => exact ⟨0, rfl, Nat.zero_le _, rfl⟩
    case round =>
      obtain ⟨k, rfl, hk, hwr⟩ := hrel
      subst wr
      by_cases hlt : k < l.length
      · have hc := HCE.out w1 HB1.out k hlt
        generalize l[k]?.getD 0 = x at *
        have hkk : (k : Int) < (l.length : Int) := by omega
        cases hn : numB x with
        | false =>
          go_wp2_with (go_at_call 25; refine (number_any _ _).mono ?_; rintro r wq ⟨rfl, hwq⟩; subst wq; rw [hn])
          go_ret
          exact ⟨rfl, HB1.out⟩
        | true =>
          go_wp2_with (go_at_call 25; refine (number_any _ _).mono ?_; rintro r wq ⟨rfl, hwq⟩; subst wq; rw [hn])
          exact ⟨⟨k + 1, by simp, hlt, by trivial⟩, by simp [intOf]; omega⟩
      · as_aux_lemma =>
        obtain rfl : k = l.length := by omega
        clear hk hlt
        obtain ⟨Q, hQ⟩ : ∃ Q : Nat, Q = l.length / 2 + 1 := ⟨_, rfl⟩
        have HQI : Hid (Q = l.length / 2 + 1) := hQ
        have hq : qrm (l.length : Int) = (Q : Int) := by rw [qrm, if_pos (by omega)]; omega
        have HQ : Hid (∀ w2, Calls Try.prog 12 #[.int .i64 (l.length : Int)] w2 fun e w' => e = .returned (.int .i64 (Q : Int)) ∧ w' = w2) := fun w2 => by
          have h := Quorum_any (l.length : Int) w2
          rw [hq] at h
          exact h
        have HCM : Hid (Calls _ _ _ _ _) := Commit_any _ _ l w1 (HSL.out w1 HB1.out)
        obtain ⟨c, hc⟩ : ∃ c, c = cmt l := ⟨_, rfl⟩
        have HC : Hid (c = cmt l) := hc
        rw [← hc] at HCM
        clear hq hQ hc
        go_wp2_with fail
        refine HCM.out.mono ?_
        rintro r w2 ⟨rfl, hB2⟩
        have HB2 : Hid (Below w.heap.size w w2) := HB1.out.trans (hB2.mono HB1.out.size)
        clear hB2 HCM
        go_wp2_with fail
        refine (HQ.out w2).mono ?_
        rintro r wq ⟨rfl, hwq⟩
        subst wq
        have hw1 : IntKind.i64.wrap ((l.length : Int) - 1) = (l.length : Int) - 1 := by rw [IntKind.wrap_i64]; omega
        go_wp2
        clear hw1
        go_loopw [11, 12, 13, 14] (fun hv av tv iv wr => ∃ m : Nat, hv = .int .i64 ((l.drop m).countP (fun x => decide (c ≤ x)) : Int) ∧ av = .int .i64 ((l.drop m).countP (fun x => decide (c < x)) : Int) ∧ iv = .int .i64 ((m : Int) - 1) ∧ m ≤ l.length ∧ (∃ ta tc, tv = .slice ta (l.length - m) tc) ∧ Ow w.heap.size wr tv (l.drop m).reverse ∧ Below w.heap.size w wr) (fun _ _ _ iv _ => (intOf iv + 1).toNat)
        case atStart => exact ⟨l.length, by simp, by simp, rfl, Nat.le_refl _, ⟨none, 0, by simp⟩, by simpa using Ow.nil _ _, HB2.out⟩
        case round =>
          obtain ⟨m, rfl, rfl, rfl, hm', ⟨ta, tc, rfl⟩, ho, hB⟩ := hrel
          have HO : Hid (Ow w.heap.size wr (.slice ta (l.length - m) tc) (l.drop m).reverse) := ho
          have HB : Hid (Below w.heap.size w wr) := hB
          clear ho hB HB2
          cases m with
          | succ j =>
            have hjl : j < l.length := by omega
            have ej : ((j + 1 : Nat) : Int) - 1 = (j : Int) := by omega
            rw [ej]
            have hce := HCE.out wr HB.out j hjl
            have hdr : l.drop j = l[j] :: l.drop (j + 1) := List.drop_eq_getElem_cons hjl
            have hx : l[j]?.getD 0 = l[j] := by simp [hjl]
            rw [hx] at hce
            have HDR : Hid (l.drop j = l[j] :: l.drop (j + 1)) := hdr
            clear hdr hx
            generalize l[j] = x at *
            have HOA : Hid (Ow w.heap.size (wr.alloc (.cells #[.int .i64 x] 3)) (.slice ta (l.length - (j + 1)) tc) (l.drop (j + 1)).reverse) := HO.out.alloc _
            have hsl := sl_one wr x
            have HSLX : Hid (Sl _ _ _ _) := hsl
            have hlen : (l.drop (j + 1)).reverse.length + [x].length ≤ 1099511627776 := by simp; omega
            have HN8 : Hid (w.heap.size ≤ (wr.alloc (.cells #[.int .i64 x] 3)).heap.size) := Nat.le_trans HB.out.size (by simp)
            have HEN : Hid (∀ v' w5, Ow w.heap.size w5 v' ((l.drop (j + 1)).reverse ++ [x]) → (wr.alloc (.cells #[.int .i64 x] 3)).grownBy w5 (Value.slice ta (l.length - (j + 1)) tc).ownBlock → (∃ ta' tc', v' = .slice ta' (l.length - j) tc') ∧ Ow w.heap.size w5 v' (l.drop j).reverse ∧ Below w.heap.size w w5) := fun v' w5 h1 h2 => by
              have h3 : Ow w.heap.size w5 v' (l.drop j).reverse := by rw [HDR.out]; simpa using h1
              obtain ⟨ta', tc', e, -, -⟩ := h3.shape
              refine ⟨⟨ta', tc', by rw [e]; simp⟩, h3, (HB.out.alloc HB.out.size _).grown h2 HN8.out (fun k e => (HOA.out.lt e).1)⟩
            have HNX : Hid (∀ (H A : Int) v' w5, H = ((l.drop j).countP (fun x => decide (c ≤ x)) : Int) → A = ((l.drop j).countP (fun x => decide (c < x)) : Int) → (∃ ta' tc', v' = .slice ta' (l.length - j) tc') → Ow w.heap.size w5 v' (l.drop j).reverse → Below w.heap.size w w5 → (∃ m : Nat, Value.int .i64 H = .int .i64 ((l.drop m).countP (fun x => decide (c ≤ x)) : Int) ∧ Value.int .i64 A = .int .i64 ((l.drop m).countP (fun x => decide (c < x)) : Int) ∧ Value.int .i64 ((j : Int) - 1) = .int .i64 ((m : Int) - 1) ∧ m ≤ l.length ∧ (∃ ta tc, v' = .slice ta (l.length - m) tc) ∧ Ow w.heap.size w5 v' (l.drop m).reverse ∧ Below w.heap.size w w5) ∧ (intOf (Value.int .i64 ((j : Int) - 1)) + 1).toNat < (intOf (Value.int .i64 (j : Int)) + 1).toNat) := fun H A v' w5 h1 h2 h3 h4 h5 =>
              ⟨⟨j, by rw [h1], by rw [h2], rfl, by omega, h3, h4, h5⟩, by simp [intOf]⟩
            have HC1 : Hid (((l.drop j).countP (fun x => decide (c ≤ x))) = (l.drop (j + 1)).countP (fun x => decide (c ≤ x)) + (if c ≤ x then 1 else 0)) := by show _ = _; rw [HDR.out, List.countP_cons]; try simp
            have HC2 : Hid (((l.drop j).countP (fun x => decide (c < x))) = (l.drop (j + 1)).countP (fun x => decide (c < x)) + (if c < x then 1 else 0)) := by show _ = _; rw [HDR.out, List.countP_cons]; try simp
            have hb1 : (l.drop (j + 1)).countP (fun x => decide (c ≤ x)) ≤ 7 := Nat.le_trans List.countP_le_length (by simp; omega)
            have hb2 : (l.drop (j + 1)).countP (fun x => decide (c < x)) ≤ 7 := Nat.le_trans List.countP_le_length (by simp; omega)
            generalize (l.drop (j + 1)).countP (fun x => decide (c ≤ x)) = H at *
            generalize (l.drop (j + 1)).countP (fun x => decide (c < x)) = A at *
            have hkk : (j : Int) < (l.length : Int) := by omega
            have hwj : IntKind.i64.wrap ((j : Int) - 1) = (j : Int) - 1 := by rw [IntKind.wrap_i64]; omega
            have hwh : IntKind.i64.wrap ((H : Int) + 1) = (H : Int) + 1 := by rw [IntKind.wrap_i64]; omega
            have hwa : IntKind.i64.wrap ((A : Int) + 1) = (A : Int) + 1 := by rw [IntKind.wrap_i64]; omega
            generalize (l.drop (j + 1)).reverse = D at *
            generalize hLJ : l.length - (j + 1) = LJ at *
            have HLD : Hid (LJ = D.length) := by
              obtain ⟨a9, c9, e9, -, -⟩ := HOA.out.shape
              cases e9; rfl
            clear hsl
            rcases Int.lt_trichotomy c x with hcx | hcx | hcx
            · have hle : c ≤ x := by omega
              rw [if_pos hle] at HC1
              rw [if_pos hcx] at HC2
              go_wp2_with (first | (at_builtin; refine wpList_append_ow rfl _ _ rfl w.heap.size _ _ _ D [x] rfl HOA.out rfl HSLX.out hlen HN8.out ?_; intro v' w5 g1 g2 g3; have hE := HEN.out v' w5 g1 g2; have HE5 : Hid _ := hE; clear g1 g2 g3 hE) | fail)
              exact HNX.out _ _ _ _ (by rw [HC1.out]; simp) (by rw [HC2.out]; simp) HE5.out.1 HE5.out.2.1 HE5.out.2.2
            · subst hcx
              rw [if_pos (Int.le_refl _)] at HC1
              rw [if_neg (by omega)] at HC2
              go_wp2_with (first | (at_builtin; refine wpList_append_ow rfl _ _ rfl w.heap.size _ _ _ D [c] rfl HOA.out rfl HSLX.out hlen HN8.out ?_; intro v' w5 g1 g2 g3; have hE := HEN.out v' w5 g1 g2; have HE5 : Hid _ := hE; clear g1 g2 g3 hE) | fail)
              exact HNX.out _ _ _ _ (by rw [HC1.out]; simp) (by rw [HC2.out]; simp) HE5.out.1 HE5.out.2.1 HE5.out.2.2
            · have hle : ¬ c ≤ x := by omega
              have hle2 : ¬ c < x := by omega
              rw [if_neg hle] at HC1
              rw [if_neg hle2] at HC2
              go_wp2_with (first | (at_builtin; refine wpList_append_ow rfl _ _ rfl w.heap.size _ _ _ D [x] rfl HOA.out rfl HSLX.out hlen HN8.out ?_; intro v' w5 g1 g2 g3; have hE := HEN.out v' w5 g1 g2; have HE5 : Hid _ := hE; clear g1 g2 g3 hE) | fail)
              exact HNX.out _ _ _ _ (by rw [HC1.out]; simp) (by rw [HC2.out]; simp) HE5.out.1 HE5.out.2.1 HE5.out.2.2
          | zero =>
            have e0 : ((0 : Nat) : Int) - 1 = -1 := rfl
            rw [e0]
            simp only [List.drop_zero, Nat.sub_zero] at HO ⊢
            have hH := cmt_have (l := l) (by omega) h7
            have hA := cmt_above (l := l) (by omega) h7
            rw [← HC.out, ← HQI.out] at hH hA
            generalize l.countP (fun x => decide (c ≤ x)) = H at *
            generalize l.countP (fun x => decide (c < x)) = A' at *
            obtain ⟨xa, A, a1, a2, a3, hAl⟩ := red l.length (by omega) (by omega) z2
            have hm0 : ¬ (l.length : Int) = 0 := by omega
            have hmz : ((l.length : Int) == 0) = false := by simpa using hz
            have HOE : Hid (Ow w.heap.size (wr.alloc (.cells #[] 3)) (.slice (some ⟨wr.heap.size, 0, none⟩) 0 0) []) := (ow_empty wr).base HB.out.size
            have HBA : Hid (Below w.heap.size w (wr.alloc (.cells #[] 3))) := HB.out.alloc HB.out.size _
            have HSA : Hid (Sl w.heap.size (wr.alloc (.cells #[] 3)) (.slice (some ⟨g, off, none⟩) l.length cap) l) := HSL.out _ HBA.out
            have hlen : ([] : List Int).length + l.length ≤ 1099511627776 := by simp; omega
            have HOT : Hid (Ow w.heap.size (wr.alloc (.cells #[] 3)) (.slice ta l.length tc) l.reverse) := HO.out.alloc _
            have HAP : Hid (∀ v' w5, Ow w.heap.size w5 v' l → (wr.alloc (.cells #[] 3)).grownBy w5 (some wr.heap.size) → (v'.ownBlock = some wr.heap.size ∨ v'.ownBlock = some (wr.alloc (.cells #[] 3)).heap.size) → ∃ g5 c5, v' = .slice (some ⟨g5, 0, none⟩) l.length c5 ∧ ((w5.cell? ⟨g5, A, none⟩ = some (.int .i64 (l[A]?.getD 0)) ∧ w5.frozen? ⟨g5, A, none⟩ = false) ∧ ∀ x, l[A]?.getD 0 ≤ x → Calls Try.prog 10 #[.slice ta l.length tc] (w5.setCell ⟨g5, A, none⟩ (.int .i64 x)) fun e w' => e = .returned (.int .i64 c) ∧ Below w.heap.size w w' ∧ Calls Try.prog 10 #[.slice (some ⟨g5, 0, none⟩) l.length c5] w' fun e w'' => ∃ c6, e = .returned (.int .i64 c6) ∧ c ≤ c6 ∧ Below w.heap.size w w'')) := fun v' w5 h1 h2 h3 => by
              obtain ⟨g5, c5, e5, hg5, hcell, hfr⟩ := h1.at0 hp
              subst e5
              refine ⟨g5, c5, rfl, ⟨hcell A hAl, hfr A⟩, fun x hx => ?_⟩
              have hgr : wr.heap.size ≤ g5 := by
                rcases h3 with e | e <;> simp [Value.ownBlock] at e <;> omega
              have hB5 : Below w.heap.size w w5 := HBA.out.grown h2 HBA.out.size (fun k e => by cases e; exact HB.out.size)
              have hO6 : Out (fun i => i = g5) w5 (w5.setCell ⟨g5, A, none⟩ (.int .i64 x)) := Out.set rfl
              have hB6 : Below w.heap.size w (w5.setCell ⟨g5, A, none⟩ (.int .i64 x)) := hB5.trans (hO6.below hB5.size (by rintro i rfl; have := HB.out.size; omega))
              have hT5 : Ow w.heap.size w5 (.slice ta l.length tc) l.reverse := HOT.out.kept h2 (by
                cases hob : (Value.slice ta l.length tc).ownBlock with
                | none => exact .inl rfl
                | some k => refine .inr (fun e => ?_); cases e; have := (HO.out.lt hob).2; omega)
              have hT6 : Ow w.heap.size (w5.setCell ⟨g5, A, none⟩ (.int .i64 x)) (.slice ta l.length tc) l.reverse := hT5.out hO6 (fun k hk e => by have h9 := (HO.out.lt hk).2; omega)
              have hU6 := h1.poke A x
              refine (Commit_any _ _ _ _ (hT6.sl (Nat.le_refl _))).mono ?_
              rintro e w' ⟨rfl, hB7⟩
              refine ⟨by rw [cmt_perm (List.reverse_perm l), ← HC.out], hB6.trans (hB7.mono hB6.size), ?_⟩
              have hU7 : Ow w.heap.size w' (.slice (some ⟨g5, 0, none⟩) l.length c5) (l.set A x) := hU6.below hB7 (Nat.le_refl _)
              refine (Commit_any _ _ _ _ (hU7.sl (Nat.le_refl _))).mono ?_
              rintro e w'' ⟨rfl, hB8⟩
              refine ⟨_, rfl, ?_, (hB6.trans (hB7.mono hB6.size)).trans (hB8.mono (Nat.le_trans hB6.size hB7.size))⟩
              rw [HC.out]
              refine cmt_le (by simp) (fun i => ?_)
              by_cases e : A = i
              · subst e
                have : (l.set A x).getD A 0 = x := by simp [List.getD_eq_getElem?_getD, hAl]
                rw [this, List.getD_eq_getElem?_getD]
                exact hx
              · rw [List.getD_eq_getElem?_getD, List.getD_eq_getElem?_getD, List.getElem?_set_ne e]
                exact Int.le_refl _
            have hx0 : l[A]?.getD 0 ≤ max (l[A]?.getD 0) (min (max z1 0) 4611686018427387904) := by omega
            have hA0 : (A : Int) < (l.length : Int) := by omega
            generalize hLA : l[A]?.getD 0 = la at *
            have HX0 : Hid (la ≤ max la (min (max z1 0) 4611686018427387904)) := hx0
            clear hx0 hLA
            have hgB : w.heap.size ≤ (wr.alloc (.cells #[] 3)).heap.size := HBA.out.size
            go_wp2_with (first
              | (at_builtin; refine wpList_append_ow rfl _ _ rfl w.heap.size _ (.slice (some ⟨wr.heap.size, 0, none⟩) 0 0) _ [] l rfl HOE.out rfl HSA.out hlen hgB ?_; intro v' w5 q1 q2 q3; obtain ⟨g5, c5, rfl, ⟨k1, k2⟩, hC5⟩ := HAP.out v' w5 (by simpa using q1) q2 q3; have HC5 : Hid _ := hC5; clear q1 q2 q3 hC5)
              | (go_at_call 10; refine (HC5.out _ HX0.out).mono ?_; rintro r w7 ⟨rfl, hB7, hC7⟩; have HB7 : Hid (Below _ _ _) := hB7; have HC7 : Hid (Calls _ _ _ _ _) := hC7; clear hB7 hC7 HC5)
              | (go_at_call 10; refine HC7.out.mono ?_; rintro r w8 ⟨c8, rfl, hc8, hB8⟩; have HB8 : Hid (Below _ _ _) := hB8; clear hB8))
            go_ret
            exact ⟨rfl, HB8.out⟩
  · have hl2 : 7 < l.length := by omega
    have hzz : ((l.length : Int) == 0) = false := by simpa using hz
    go_wp2
    go_ret
    exact ⟨rfl, HB1.out⟩

theorem trackHas_in (w : World) {a : Option Addr} {len cap : Nat} (l : List Int) (s : Sl w.heap.size w (.slice a len cap) l) (z1 : Int) (hb1 : In64 z1) (z2 : Int) (hb2 : In64 z2) :
    Calls Try.prog 7 #[.slice a len cap, .int .i64 z1, .int .i64 z2] w fun e w' => e = .returned (.bool true) ∧ Below w.heap.size w w' := by
  obtain ⟨a', cap', e, h⟩ := s
  cases e
  exact has_walk z1 z2 a cap l w ⟨a, cap, rfl, h⟩
end Go.Proofs.Ytdgaimiggejleaa
