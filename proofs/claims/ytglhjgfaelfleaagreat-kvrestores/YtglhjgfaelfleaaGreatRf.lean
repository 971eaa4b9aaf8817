/-
  The document's own reader, of texts up to a million bytes; a copy, what is lent and kept.
-/
import Derived.Test.YtglhjgfaelfleaaGreatGb
import Derived.Deep.RegionHeld3
namespace Go.Proofs.YtglhjgfaelfleaaGreat
open Go.RowKit Go.Shelf

set_option maxRecDepth 100000 in
set_option maxHeartbeats 400000 in
/-- The document's Bytes: a copy in new memory. -/
theorem bytes_any (M : Nat) (v : Value) (l : List UInt8) (w : World) (hv : Sl M w v l) (hM : M ≤ w.heap.size) (hl : l.length ≤ 1099511627776) :
    Calls Tryz.prog 19 #[v] w fun e w' => ∃ v', e = .returned v' ∧ Ow w.heap.size w' v' l ∧ Below w.heap.size w w' := by
  obtain ⟨a, cap, rfl, -⟩ := id hv
  go_enter Tryz.func19, Tryz.ntmps19
  have hO0 : Ow w.heap.size (w.alloc (.cells #[] 5)) (.slice (some ⟨w.heap.size, 0, none⟩) 0 0) [] :=
    ⟨by simp, .inr ⟨w.heap.size, 0, #[], rfl, Nat.le_refl _, World.alloc_heap_new w _, by simp, by unfold maxLen; omega, by simp, by simp⟩⟩
  have hB0 : Below w.heap.size w (w.alloc (.cells #[] 5)) := (Below.refl _ w).alloc (Nat.le_refl _) _
  have hv1 := hv.below (hB0.mono hM)
  go_wp2_with (at_builtin; refine wpList_append_ow rfl _ _ rfl w.heap.size M _ _ [] l rfl hO0 rfl hv1 (by simpa using hl) (by simp) ?_; intro v' w1 hO hg _)
  go_ret
  exact ⟨v', rfl, hO, hB0.grown hg (by simp) (fun k e => by cases e; exact Nat.le_refl _)⟩
set_option maxRecDepth 100000 in
set_option maxHeartbeats 1000000 in
theorem lent_any (M : Nat) (v : Value) (l : List UInt8) (w : World) (hv : Sl M w v l) (hM : M ≤ w.heap.size) (hl : l.length ≤ 1000000) :
    Calls Tryz.prog 6 #[v] w fun e w' => ∃ g cap, e = .returned (.slice (some ⟨g, 0, none⟩) l.length cap) ∧ Ow w.heap.size w' (.slice (some ⟨g, 0, none⟩) (l.length + 1) cap) (l ++ [201]) ∧ Below w.heap.size w w' := by
  obtain ⟨a, c, rfl, -⟩ := id hv
  go_enter Tryz.func6, Tryz.ntmps6
  go_wp2_with fail
  refine (bytes_any M _ l _ hv hM (by omega)).mono ?_
  rintro e w1 ⟨v1, rfl, hO1, hB1⟩
  obtain ⟨a1, c1, rfl, -, -⟩ := hO1.shape
  have hz1 := hB1.size
  have hs2 := sl_new w1 [201] #[.int .u8 201] (by simp) (by simp) (by rfl)
  have hO2 := hO1.alloc (.cells #[.int .u8 201] 5)
  have hlen : (l ++ [(201 : UInt8)]).length = l.length + 1 := by simp
  go_wp2_with (at_builtin; refine wpList_append_ow rfl _ _ rfl w.heap.size _ _ _ l [201] rfl hO2 rfl hs2 (by simp; omega) (by simp; omega) ?_; intro v3 w3 hO3 hg3 hn3; obtain ⟨a3, c3, rfl, hc3, hm3⟩ := hO3.shape; obtain ⟨g, rfl, hgl, -, -, -⟩ := hO3.at0 (by simp); rw [hlen] at hO3 hc3 ⊢; have hc3' : l.length ≤ c3 := by omega)
  go_ret
  refine ⟨g, c3, rfl, hO3, ?_⟩
  exact (hB1.alloc hz1 _).grown hg3 (by simp; omega) (fun k hk => (World.ownsRow.lt hO1 k hk).1)

set_option maxRecDepth 100000 in
set_option maxHeartbeats 1000000 in
theorem kept_any (N g cap : Nat) (v : Value) (l : List UInt8) (w : World) (hl : l.length ≤ 1000000) (hO : Ow N w (.slice (some ⟨g, 0, none⟩) (l.length + 1) cap) (l ++ [201])) (hv : Sl w.heap.size w v l) :
    Calls Tryz.prog 9 #[.slice (some ⟨g, 0, none⟩) l.length cap, v] w fun e w' => e = .returned (.bool true) ∧ ∃ n, w' = w.drewN n := by
  have hs := hO.lent (Nat.le_refl _)
  obtain ⟨hmk, hc, hm⟩ := hO.mark
  obtain ⟨a, c, rfl, -⟩ := id hv
  unfold maxLen at hm
  go_enter Tryz.func9, Tryz.ntmps9
  go_wp2_with fail
  refine (same_any _ _ _ l l _ hs hv).mono ?_
  rintro e w1 ⟨rfl, n1, rfl⟩
  simp only [decide_true]
  have hmk1 : (w.drewN n1).cell? ⟨g, l.length, none⟩ = some (.int .u8 201) := hmk
  clear hs hv hO
  go_wp2
  go_ret
  exact ⟨rfl, _, rfl⟩
set_option maxRecDepth 100000 in
set_option maxHeartbeats 100000000 in
theorem refInt_any (N : Nat) (v : Value) (l : List UInt8) (i : Int) (w : World) (hv : Sl N w v l) (hl : l.length ≤ 140737488355328) :
    Calls Tryz.prog 52 #[v, .int .i64 i] w fun e w' => e = .returned (tup3 (intAt l i)) ∧ w' = w := by
  obtain ⟨a0, cap, rfl, hc, hm, g⟩ := hv
  unfold maxLen at hm
  by_cases h0 : i < 0
  · rw [intAt_off l i (.inl h0)]; unfold tup3
    go_enter Tryz.func52, Tryz.ntmps52
    go_wp2
    go_ret3
    exact ⟨rfl, rfl⟩
  · by_cases h1 : (l.length : Int) ≤ i
    · rw [intAt_off l i (.inr h1)]; unfold tup3
      have h0' : decide (i < 0) = false := by simpa using h0
      go_enter Tryz.func52, Tryz.ntmps52
      go_wp2
      go_ret3
      exact ⟨rfl, rfl⟩
    · obtain ⟨a, rfl⟩ := Int.eq_ofNat_of_zero_le (Int.not_lt.1 h0)
      have hal : a < l.length := by omega
      obtain ⟨b, off, rfl, -, hcell⟩ := Sl.cellAt g (by omega)
      have HC : Hid (∀ i, i < l.length → w.cell? ⟨b, off + i, none⟩ = some (.int .u8 ((byteAt l i).toNat : Int))) := hcell
      clear g h1 h0 hcell
      have h0' : decide ((a : Int) < 0) = false := by simp
      have h1' : decide ((l.length : Int) ≤ (a : Int)) = false := by simp; omega
      go_enter Tryz.func52, Tryz.ntmps52
      go_wp2
      go_loop [7] (fun k => ∃ q : Nat, k = .int .i64 (q : Int) ∧ q ≤ 9 ∧ a + q ≤ l.length ∧ ∀ j, j < q → 128 ≤ (byteAt l (a + j)).toNat) (fun k => 9 - (intOf k).toNat)
      case atStart => exact ⟨0, rfl, by omega, by omega, fun j hj => by omega⟩
      case round =>
        obtain ⟨k, rfl, hk9, hkl, hj⟩ := hrel
        have HJ : Hid (∀ j, j < k → 128 ≤ (byteAt l (a + j)).toNat) := hj
        clear hj
        by_cases hk : k < 9
        · by_cases hlt : a + k < l.length
          · have hcl := HC.out (a + k) hlt
            generalize hx : byteAt l (a + k) = x at hcl
            have HX : Hid (byteAt l (a + k) = x) := hx
            clear hx
            by_cases hx8 : 128 ≤ (x.toNat : Int)
            · go_wp2
              go_round
              case rel =>
                refine ⟨k + 1, by go_num, by omega, by omega, fun j hj => ?_⟩
                by_cases e : j = k
                · subst e; rw [HX.out]; omega
                · exact HJ.out j (by omega)
              case measure => simp [intOf]; omega
            · have hk9' : ((k : Int) == 9) = false := by rw [beq_eq_false_iff_ne]; omega
              by_cases hzz : 0 < k ∧ x.toNat = 0
              · obtain ⟨hk0, hx0⟩ := hzz
                have HV : Hid (intAt l a = (0, 0, 4)) := verdict_zero l a k hk hlt HJ.out (by rw [HX.out]; exact hx0) hk0
                have hx0' : ((x.toNat : Int) == 0) = true := by simp [hx0]
                clear hx0
                go_wp2
                go_ret3
                exact ⟨by rw [HV.out]; rfl, rfl⟩
              · have HV : Hid (intAt l a = if 4611686018427387904 < val ((l.drop a).take (k + 1)) then (0, 0, 1) else (val ((l.drop a).take (k + 1)), k + 1, 0)) :=
                  verdict_num l a k hk hlt HJ.out (by rw [HX.out]; omega) (by rw [HX.out]; intro h; omega)
                have hge' : decide ((l.length : Int) ≤ (a : Int) + (k : Int)) = false := by simp; omega
                have hsp : (0 < k ∧ ((x.toNat : Int) == 0) = false) ∨ decide (0 < k) = false := by
                  by_cases hk0 : 0 < k
                  · exact .inl ⟨hk0, by rw [beq_eq_false_iff_ne]; omega⟩
                  · exact .inr (by simp; omega)
                clear hzz
                generalize hp : (l.drop a).take (k + 1) = p at HV
                have hplen : p.length = k + 1 := by rw [← hp]; simp; omega
                have HPB : Hid (∀ j, j ≤ k → byteAt p j = byteAt l (a + j)) := by
                  intro j hj; rw [← hp, byteAt_take _ _ _ (by omega), byteAt_drop]
                have HPL : Hid (p.length = k + 1) := hplen
                clear hp hplen
                rcases hsp with ⟨hk0, hx0'⟩ | hk0'
                all_goals
                  go_wp2
                  go_loop [8, 9] (fun n i => ∃ c : Nat, c ≤ k + 1 ∧ i = .int .i64 ((c : Int) - 1) ∧ n = .int .i64 (val (p.drop c) : Int)) (fun _ i => (intOf i + 1).toNat)
                  case atStart => exact ⟨k + 1, by omega, by go_num, by rw [List.drop_eq_nil_of_le (by have := HPL.out; omega)]; rfl⟩
                  case round =>
                    obtain ⟨c, hck, hci, rfl⟩ := hrel
                    cases c with
                    | zero =>
                      subst hci
                      have hvb : val (p.drop 0) < 9223372036854775808 := by
                        have h1 := val_lt (p.drop 0)
                        have h2 : (p.drop 0).length ≤ 9 := by have := HPL.out; simp; omega
                        have h3 : 128 ^ (p.drop 0).length ≤ 128 ^ 9 := Nat.pow_le_pow_right (by decide) h2
                        have h4 : (128 : Nat) ^ 9 = 9223372036854775808 := by decide
                        omega
                      generalize hval : val (p.drop 0) = vv at hvb
                      have HVV : Hid (val (p.drop 0) = vv) := hval
                      clear hval
                      by_cases hbig : 4611686018427387904 < vv
                      · go_wp2
                        go_ret3
                        have hvv := HVV.out
                        simp only [List.drop_zero] at hvv
                        exact ⟨by rw [HV.out, hvv, if_pos hbig]; rfl, rfl⟩
                      · go_wp2
                        go_ret3
                        have hvv := HVV.out
                        simp only [List.drop_zero] at hvv
                        refine ⟨?_, rfl⟩
                        rw [HV.out, hvv, if_neg hbig]
                        show Ending.returned (.tuple #[.int .i64 (vv : Int), .int .i64 ((k : Int) + 1), .int .i64 0]) = _
                        simp [tup3]
                    | succ c =>
                      rw [show (((c + 1 : Nat) : Int) - 1) = (c : Int) by omega] at hci
                      subst hci
                      have hvb : val (p.drop (c + 1)) < 72057594037927936 := by
                        have h1 := val_lt (p.drop (c + 1))
                        have h2 : (p.drop (c + 1)).length ≤ 8 := by have := HPL.out; simp; omega
                        have h3 : 128 ^ (p.drop (c + 1)).length ≤ 128 ^ 8 := Nat.pow_le_pow_right (by decide) h2
                        have h4 : (128 : Nat) ^ 8 = 72057594037927936 := by decide
                        omega
                      have HD : Hid (val (p.drop c) = (byteAt l (a + c)).toNat % 128 + 128 * val (p.drop (c + 1))) := by
                        have := val_dropB p c (by have := HPL.out; omega)
                        rw [HPB.out c (by omega)] at this
                        exact this
                      have hcl2 := HC.out (a + c) (by omega)
                      generalize val (p.drop (c + 1)) = vv at hvb HD
                      generalize byteAt l (a + c) = y at hcl2 HD
                      have hy := y.toNat_lt
                      go_wp2
                      go_round
                      case rel => exact ⟨c, by omega, by go_num, by rw [HD.out]; go_num⟩
                      case measure => simp [intOf]
          · have HV : Hid (intAt l a = (0, 0, 2)) := verdict_short l a k hk hal (by omega) HJ.out
            have hk9' : ((k : Int) == 9) = false := by rw [beq_eq_false_iff_ne]; omega
            go_wp2
            go_ret3
            exact ⟨by rw [HV.out]; rfl, rfl⟩
        · obtain rfl : k = 9 := by omega
          have HV : Hid (intAt l a = (0, 0, 4)) := verdict_nine l a hkl HJ.out
          go_wp2
          go_ret3
          exact ⟨by rw [HV.out]; rfl, rfl⟩
/-- Block Q holds the document's reader of the bytes l (which lie in v, below N), at the place a, with the error e. -/
structure Rrd (N : Nat) (W : World) (Q : Nat) (v : Value) (l : List UInt8) (a e : Nat) : Prop where
  le : N ≤ Q
  at0 : W.heap[Q]? = some (.cells #[v, .int .i64 (a : Int), .int .i64 (e : Int)] 59 (0, 0))
  sl : Sl N W v l

theorem Rrd.lt {N : Nat} {W : World} {Q : Nat} {v : Value} {l : List UInt8} {a e : Nat} (h : Rrd N W Q v l a e) : Q < W.heap.size := (Array.getElem?_eq_some_iff.1 h.at0).1

/-- It lies on, where another block is turned. -/
theorem Rrd.kept {N : Nat} {w w' : World} {Q : Nat} {v : Value} {l : List UInt8} {a e : Nat} {row : Option Nat} (h : Rrd N w Q v l a e) (hg : w.grownBy w' row) (hne : row ≠ some Q) (hrow : ∀ k, row = some k → N ≤ k) : Rrd N w' Q v l a e := by
  have hlt := h.lt
  have hle := h.le
  refine ⟨h.le, (hg.block Q hlt (fun e => hne e.symm)).trans h.at0, h.sl.below ⟨hg.os, hg.tape, hg.output, hg.size, fun k hk => hg.block k (by omega) (fun e => by have := hrow k e.symm; omega)⟩⟩

theorem Rrd.below {N B : Nat} {w w' : World} {Q : Nat} {v : Value} {l : List UInt8} {a e : Nat} (h : Rrd N w Q v l a e) (hB : Below B w w') (hs : w.heap.size ≤ B) : Rrd N w' Q v l a e :=
  h.kept (row := none) ⟨hB.os, hB.tape, hB.output, hB.size, fun k hk _ => hB.block k (by omega)⟩ (by simp) (by simp)

theorem Rrd.drewN {N : Nat} {w : World} {Q : Nat} {v : Value} {l : List UInt8} {a e : Nat} (h : Rrd N w Q v l a e) (n : Nat) : Rrd N (w.drewN n) Q v l a e := h.kept (row := none) (grown_drewN w n) (by simp) (by simp)

theorem Rrd.cells {N : Nat} {w : World} {Q : Nat} {v : Value} {l : List UInt8} {a e : Nat} (h : Rrd N w Q v l a e) :
    w.cell? ⟨Q, 0, none⟩ = some v ∧ w.cell? ⟨Q, 1, none⟩ = some (.int .i64 (a : Int)) ∧ w.cell? ⟨Q, 2, none⟩ = some (.int .i64 (e : Int)) ∧ w.frozen? ⟨Q, 1, none⟩ = false ∧ w.frozen? ⟨Q, 2, none⟩ = false := by
  have hR := h.at0
  exact ⟨by simp [World.cell?, hR], by simp [World.cell?, hR], by simp [World.cell?, hR], by simp [World.frozen?, hR], by simp [World.frozen?, hR]⟩

theorem Rrd.set {N : Nat} {w : World} {Q : Nat} {v : Value} {l : List UInt8} {a e : Nat} (h : Rrd N w Q v l a e) (o : Nat) (u : Value) : Sl N (w.setCell ⟨Q, o, none⟩ u) v l := by
  have hle := h.le
  exact h.sl.below ((Below.refl N w).setCell (p := ⟨Q, o, none⟩) hle u)

theorem Rrd.err {N : Nat} {w : World} {Q : Nat} {v : Value} {l : List UInt8} {a e : Nat} (h : Rrd N w Q v l a e) (e' : Nat) : Rrd N (w.setCell ⟨Q, 2, none⟩ (.int .i64 (e' : Int))) Q v l a e' := by
  have hlt := h.lt
  refine ⟨h.le, ?_, h.set _ _⟩
  show (w.heap.modify Q _)[Q]? = _
  rw [Array.getElem?_eq_getElem (by rw [Array.size_modify]; exact hlt), Array.getElem_modify_self, (Array.getElem?_eq_some_iff.1 h.at0).2]
  rfl

theorem Rrd.at' {N : Nat} {w : World} {Q : Nat} {v : Value} {l : List UInt8} {a e : Nat} (h : Rrd N w Q v l a e) (a' : Nat) : Rrd N (w.setCell ⟨Q, 1, none⟩ (.int .i64 (a' : Int))) Q v l a' e := by
  have hlt := h.lt
  refine ⟨h.le, ?_, h.set _ _⟩
  show (w.heap.modify Q _)[Q]? = _
  rw [Array.getElem?_eq_getElem (by rw [Array.size_modify]; exact hlt), Array.getElem_modify_self, (Array.getElem?_eq_some_iff.1 h.at0).2]
  rfl

set_option maxRecDepth 100000 in
set_option maxHeartbeats 1000000 in
/-- The document's Int of a reader. -/
theorem qInt_any (N Q : Nat) (v : Value) (l : List UInt8) (a e : Nat) (w : World) (h : Rrd N w Q v l a e) (hl : l.length ≤ 1000000) (ha : a ≤ l.length) :
    Calls Tryz.prog 27 #[.pointer (some ⟨Q, 0, none⟩)] w fun r w' =>
      r = .returned (.int .i64 ((pk l a e).1 : Int)) ∧ Rrd N w' Q v l (a + (pk l a e).2.1) (pk l a e).2.2 ∧ w.grownBy w' (some Q) := by
  obtain ⟨k0, k1, k2, f1, f2⟩ := h.cells
  obtain ⟨av, c, rfl, -⟩ := id h.sl
  by_cases he : e = 0
  · subst he
    have hpk : pk l a 0 = intAt l a := rfl
    rw [hpk]
    have hbd := intAt_bd l a
    generalize hr : intAt l a = r at *
    have HR : Hid (intAt l a = r) := hr
    obtain ⟨n, s, e'⟩ := r
    obtain ⟨b1, b2, b3, -⟩ := hbd
    simp only at b1 b2 b3 ⊢
    have b4 := b3 ha
    clear hr hpk b3
    have hcall : ∀ nq, Calls Tryz.prog 52 #[.slice av l.length c, .int .i64 (a : Int)] (w.drewN nq) fun e w' => e = .returned (tup3 (n, s, e')) ∧ w' = w.drewN nq := fun nq => by
      have := refInt_any N _ l (a : Int) (w.drewN nq) (h.drewN nq).sl (by omega)
      rw [HR.out] at this; exact this
    unfold tup3 at hcall
    simp only at hcall
    have HC := hcall
    clear hcall
    go_enter Tryz.func27, Tryz.ntmps27
    go_wp2
    go_quiet ((go_at_call 52; exact Calls.quiet_of_same (HC _)))
    have HF : Hid (∀ nq, Rrd N (((w.drewN nq).setCell ⟨Q, 2, none⟩ (.int .i64 (e' : Int))).setCell ⟨Q, 1, none⟩ (.int .i64 ((a : Int) + (s : Int)))) Q (.slice av l.length c) l (a + s) e') := fun nq => by
      have := ((h.drewN nq).err e').at' (a + s)
      simpa using this
    have HG : Hid (∀ nq, w.grownBy (((w.drewN nq).setCell ⟨Q, 2, none⟩ (.int .i64 (e' : Int))).setCell ⟨Q, 1, none⟩ (.int .i64 ((a : Int) + (s : Int)))) (some Q)) := fun nq =>
      grown_trans (grown_trans (grown_trans (grown_refl w _) (grown_drewN w nq) (by simp)) (grown_set _ _ _ _) (fun k e => .inl e)) (grown_set _ _ _ _) (fun k e => .inl e)
    clear HC h
    go_wp2
    go_ret
    exact ⟨rfl, by simpa using HF.out _, by simpa using HG.out _⟩
  · have hpk : pk l a e = (0, 0, e) := by simp [pk, he]
    rw [hpk]
    have he' : ((e : Int) != 0) = true := by simp; omega
    go_enter Tryz.func27, Tryz.ntmps27
    go_wp2
    go_ret
    exact ⟨rfl, h, grown_refl w _⟩

set_option maxRecDepth 100000 in
set_option maxHeartbeats 1000000 in
theorem qLeft_any (N Q : Nat) (v : Value) (l : List UInt8) (a e : Nat) (w : World) (h : Rrd N w Q v l a e) (hl : l.length ≤ 1000000) (ha : a ≤ l.length) :
    Calls Tryz.prog 53 #[.pointer (some ⟨Q, 0, none⟩)] w fun r w' => r = .returned (.int .i64 ((l.length : Int) - (a : Int))) ∧ ∃ n, w' = w.drewN n := by
  obtain ⟨k0, k1, k2, f1, f2⟩ := h.cells
  obtain ⟨av, c, rfl, -⟩ := id h.sl
  go_enter Tryz.func53, Tryz.ntmps53
  go_wp2
  go_quiet (fail)
  go_wp2
  go_ret
  exact ⟨rfl, _, rfl⟩

set_option maxRecDepth 100000 in
set_option maxHeartbeats 1000000 in
theorem qDone_any (N Q : Nat) (v : Value) (l : List UInt8) (a e : Nat) (w : World) (h : Rrd N w Q v l a e) (hl : l.length ≤ 1000000) (ha : a ≤ l.length) :
    Calls Tryz.prog 28 #[.pointer (some ⟨Q, 0, none⟩)] w fun r w' => r = .returned (.int .i64 (doneE l a e : Int)) ∧ ∃ n, w' = w.drewN n := by
  obtain ⟨k0, k1, k2, f1, f2⟩ := h.cells
  by_cases he : e = 0
  · subst he
    by_cases hlt : a < l.length
    · have HE : Hid (doneE l a 0 = 3) := by show doneE l a 0 = 3; simp [doneE, hlt]
      go_enter Tryz.func28, Tryz.ntmps28
      go_wp2_with (go_at_call 53; refine (qLeft_any N Q v l a 0 w h hl ha).mono ?_; rintro r w1 ⟨rfl, n, rfl⟩)
      go_ret
      exact ⟨by rw [HE.out]; rfl, _, rfl⟩
    · have HE : Hid (doneE l a 0 = 0) := by show doneE l a 0 = 0; simp [doneE, hlt]
      go_enter Tryz.func28, Tryz.ntmps28
      go_wp2_with (go_at_call 53; refine (qLeft_any N Q v l a 0 w h hl ha).mono ?_; rintro r w1 ⟨rfl, n, rfl⟩)
      go_ret
      exact ⟨by rw [HE.out]; rfl, _, rfl⟩
  · have HE : Hid (doneE l a e = e) := by show doneE l a e = e; simp [doneE, he]
    have he' : ((e : Int) == 0) = false := by simp; omega
    go_enter Tryz.func28, Tryz.ntmps28
    go_wp2
    go_ret
    exact ⟨by rw [HE.out]; rfl, 0, rfl⟩
set_option maxRecDepth 100000 in
set_option maxHeartbeats 4000000 in
theorem qBytes_any (N Q : Nat) (v : Value) (l : List UInt8) (a e : Nat) (most : Int) (w : World) (h : Rrd N w Q v l a e) (hl : l.length ≤ 1000000) (ha : a ≤ l.length) :
    Calls Tryz.prog 51 #[.pointer (some ⟨Q, 0, none⟩), .int .i64 most] w fun r w' =>
      ∃ u, r = .returned u ∧ Ow w.heap.size w' u (takeAt l a e most).1 ∧ Rrd N w' Q v l (takeAt l a e most).2.1 (takeAt l a e most).2.2 ∧ w.grownBy w' (some Q) := by
  have hp := qInt_any N Q v l a e w h hl ha
  have hbd := pk_bd l a e
  have hin := pk_in l a e
  obtain ⟨k0, k1, k2, f1, f2⟩ := h.cells
  obtain ⟨av, c, rfl, -, hcm, hsl⟩ := id h.sl
  unfold takeAt
  generalize pk l a e = p at *
  obtain ⟨n, s, e'⟩ := p
  obtain ⟨b1, b2, b3, b5⟩ := hbd
  simp only at hp b1 b2 b3 b5 hin ⊢
  have b4 := b3 ha
  by_cases he : e' = 0
  · subst he
    have hin' := hin rfl
    obtain ⟨b, off, rfl, -, -⟩ := hsl.resolve_left (by intro h; subst h; simp at hin')
    rw [if_neg (by simp)]
    clear hin b3 b5 hsl
    have hcase : (most < 0 ∧ max most 0 = 0) ∨ (¬ most < 0 ∧ max most 0 = most) := by omega
    rcases hcase with ⟨hneg, hmx⟩ | ⟨hneg, hmx⟩
    all_goals
      rw [hmx]
      clear hmx
    · by_cases hm : (0 : Int) < (n : Int)
      · rw [if_pos hm]
        go_enter Tryz.func51, Tryz.ntmps51
        go_wp2_with (go_at_call 27; refine hp.mono ?_; rintro r w1 ⟨rfl, h1, hg⟩; obtain ⟨_, k1', k2', f1', f2'⟩ := h1.cells)
        go_ret
        exact ⟨_, rfl, Ow.nil _ _, (h1.err 3).at' a, grown_trans (grown_trans hg (grown_set _ _ _ _) (fun k e => .inl e)) (grown_set _ _ _ _) (fun k e => .inl e)⟩
      · have hs : ¬ (l.length - (a + s) < n) := by omega
        rw [if_neg hm, if_neg hs]
        have hs' : (n : Int) ≤ (l.length : Int) - ((a : Int) + (s : Int)) := by omega
        go_enter Tryz.func51, Tryz.ntmps51
        go_wp2_with (go_at_call 27; refine hp.mono ?_; rintro r w1 ⟨rfl, h1, hg⟩; obtain ⟨k0', k1', k2', f1', f2'⟩ := h1.cells)
        go_quiet (fail)
        go_wp2
        obtain ⟨W2, hW2⟩ : ∃ W2, (w1.drewN nq).setCell ⟨Q, 1, none⟩ (.int .i64 ((a : Int) + (s : Int) + (n : Int))) = W2 := ⟨_, rfl⟩
        have h2 : Rrd N W2 Q (.slice (some ⟨b, off, none⟩) l.length c) l (a + s + n) 0 := by
          rw [← hW2]; simpa using (h1.drewN nq).at' (a + s + n)
        have hg2 : w.grownBy W2 (some Q) := by
          rw [← hW2]; exact grown_trans (grown_trans hg (grown_drewN w1 nq) (by simp)) (grown_set _ _ _ _) (fun k e => .inl e)
        rw [hW2]
        clear hW2 h1 hg k0' k1' k2' f1' f2' hp k0 k1 k2 f1 f2 h
        obtain ⟨k0', k1', k2', -, -⟩ := h2.cells
        have k1'' : W2.cell? ⟨Q, 1, none⟩ = some (.int .i64 ((a : Int) + (s : Int) + (n : Int))) := by simpa using k1'
        clear k1'
        have hD : Below N W2 W2.drew := ⟨rfl, rfl, rfl, Nat.le_refl _, fun _ _ => rfl⟩
        have hmid := (h2.sl.mid' (a + s) n (by omega)).below hD
        have hlen : ((l.drop (a + s)).take n).length ≤ 1099511627776 := by simp; omega
        have hNle : N ≤ W2.heap.size := by have := h2.lt; have := h2.le; omega
        have hlc : l.length ≤ c := by obtain ⟨_, _, e, hc, _⟩ := h2.sl; cases e; exact hc
        unfold maxLen at hcm
        have hQ : Q < W2.heap.size := h2.lt
        have hwA : IntKind.i64.wrap ((a : Int) + (s : Int)) = (a : Int) + (s : Int) := by rw [IntKind.wrap_i64]; omega
        have hwB : IntKind.i64.wrap ((a : Int) + (s : Int) + (n : Int) - (n : Int)) = (a : Int) + (s : Int) := by rw [IntKind.wrap_i64]; omega
        have i1 : (0 : Int) ≤ (a : Int) + (s : Int) := by omega
        have i2 : (a : Int) + (s : Int) ≤ (a : Int) + (s : Int) + (n : Int) := by omega
        have i3 : (a : Int) + (s : Int) + (n : Int) ≤ (c : Int) := by omega
        have i4 : (0 : Int) ≤ (a : Int) + (s : Int) + (n : Int) := by omega
        have i5 : ((a : Int) + (s : Int) + (n : Int)).toNat = a + s + n := by omega
        have i6 : ((a : Int) + (s : Int)).toNat = a + s := by omega
        have i7 : a + s + n - (a + s) = n := by omega
        have hz0 : n = 0 → (l.drop (a + s)).take n = [] := fun h => by simp [h]
        generalize hT : (l.drop (a + s)).take n = T at *
        have HT : Hid ((l.drop (a + s)).take n = T) := hT
        clear hT
        have HX : Hid (∀ w3 u, Ow W2.heap.size w3 u T → Below W2.heap.size W2 w3 → Ow w.heap.size w3 u T ∧ Rrd N w3 Q (.slice (some ⟨b, off, none⟩) l.length c) l (a + s + n) 0 ∧ w.grownBy w3 (some Q)) :=
          fun w3 u hO hB => ⟨hO.base hg2.size, h2.below hB (Nat.le_refl _), grown_trans hg2 (Below.grownBy' hB none) (by simp)⟩
        clear h2 hg2
        by_cases hcz : c = a + s
        · have hn0 : n = 0 := by omega
          have hT0 := hz0 hn0
          subst hcz hT0
          have hmid : Sl N W2.drew (.slice (some ⟨b, off, none⟩) n 0) [] := ⟨_, _, by rw [hn0]; rfl, by simp, by unfold maxLen; omega, .inl rfl⟩
          have j1 : (n : Int) ≤ 0 := by omega
          have j2 : (a : Int) + (s : Int) + (n : Int) ≤ (a : Int) + (s : Int) := by omega
          have j3 : n ≤ 0 := by omega
          clear hn0 i2 i3
          go_region_with (go_at_call 19; refine (bytes_any N _ _ _ hmid (by simpa using hNle) hlen).mono ?_; rintro r w3 ⟨u, rfl, hO3, hB3⟩; obtain ⟨a3, c3, rfl, -, -⟩ := hO3.shape)
          all_goals
            have hX := HX.out w3 _ hO3 ⟨hB3.os, hB3.tape, hB3.output, hB3.size, hB3.block⟩
            clear hO3 hB3 hmid
            go_wp2
            go_ret
            rw [HT.out]
            exact ⟨_, rfl, hX⟩
        · have hcz' : ¬ c - (a + s) = 0 := by omega
          have hcz2 : a + s < c := by omega
          have hcz3 : ¬ c ≤ a + s := by omega
          go_region_held3 (fun w' => w'.cell? ⟨Q, 0, none⟩ = some (.slice (some ⟨b, off, none⟩) l.length c) ∧ w'.cell? ⟨Q, 1, none⟩ = some (.int .i64 ((a : Int) + (s : Int) + (n : Int)))) (go_keep)
            (first | (go_at_call 19; refine (bytes_any N _ _ _ hmid (by simpa using hNle) hlen).mono ?_; rintro r w3 ⟨u, rfl, hO3, hB3⟩; obtain ⟨a3, c3, rfl, -, -⟩ := hO3.shape; have q0 := (hB3.cell (p := ⟨Q, 0, none⟩) hQ).trans k0'; have q1 := (hB3.cell (p := ⟨Q, 1, none⟩) hQ).trans k1''))
          have hX := HX.out w3 _ hO3 ⟨hB3.os, hB3.tape, hB3.output, hB3.size, hB3.block⟩
          clear q0 q1 hO3 hB3 hmid
          go_wp2
          go_ret
          rw [HT.out]
          exact ⟨_, rfl, hX⟩
    · by_cases hm : most < (n : Int)
      · rw [if_pos hm]
        go_enter Tryz.func51, Tryz.ntmps51
        go_wp2_with (go_at_call 27; refine hp.mono ?_; rintro r w1 ⟨rfl, h1, hg⟩; obtain ⟨_, k1', k2', f1', f2'⟩ := h1.cells)
        go_ret
        exact ⟨_, rfl, Ow.nil _ _, (h1.err 3).at' a, grown_trans (grown_trans hg (grown_set _ _ _ _) (fun k e => .inl e)) (grown_set _ _ _ _) (fun k e => .inl e)⟩
      · rw [if_neg hm]
        by_cases hs : l.length - (a + s) < n
        · rw [if_pos hs]
          have hs' : (l.length : Int) - ((a : Int) + (s : Int)) < (n : Int) := by omega
          go_enter Tryz.func51, Tryz.ntmps51
          go_wp2_with (go_at_call 27; refine hp.mono ?_; rintro r w1 ⟨rfl, h1, hg⟩; obtain ⟨k0', k1', k2', f1', f2'⟩ := h1.cells)
          go_quiet (fail)
          go_wp2
          go_ret
          refine ⟨_, rfl, Ow.nil _ _, ?_, ?_⟩
          · have := (((h1.drewN nq).err 2).at' a); simpa using this
          · have := grown_trans (grown_trans (grown_trans hg (grown_drewN w1 nq) (by simp)) (grown_set _ Q 2 (.int .i64 2)) (fun k e => .inl e)) (grown_set _ Q 1 (.int .i64 (a : Int))) (fun k e => .inl e)
            simpa using this
        · rw [if_neg hs]
          have hs' : (n : Int) ≤ (l.length : Int) - ((a : Int) + (s : Int)) := by omega
          go_enter Tryz.func51, Tryz.ntmps51
          go_wp2_with (go_at_call 27; refine hp.mono ?_; rintro r w1 ⟨rfl, h1, hg⟩; obtain ⟨k0', k1', k2', f1', f2'⟩ := h1.cells)
          go_quiet (fail)
          go_wp2
          obtain ⟨W2, hW2⟩ : ∃ W2, (w1.drewN nq).setCell ⟨Q, 1, none⟩ (.int .i64 ((a : Int) + (s : Int) + (n : Int))) = W2 := ⟨_, rfl⟩
          have h2 : Rrd N W2 Q (.slice (some ⟨b, off, none⟩) l.length c) l (a + s + n) 0 := by
            rw [← hW2]; simpa using (h1.drewN nq).at' (a + s + n)
          have hg2 : w.grownBy W2 (some Q) := by
            rw [← hW2]; exact grown_trans (grown_trans hg (grown_drewN w1 nq) (by simp)) (grown_set _ _ _ _) (fun k e => .inl e)
          rw [hW2]
          clear hW2 h1 hg k0' k1' k2' f1' f2' hp k0 k1 k2 f1 f2 h
          obtain ⟨k0', k1', k2', -, -⟩ := h2.cells
          have k1'' : W2.cell? ⟨Q, 1, none⟩ = some (.int .i64 ((a : Int) + (s : Int) + (n : Int))) := by simpa using k1'
          clear k1'
          have hD : Below N W2 W2.drew := ⟨rfl, rfl, rfl, Nat.le_refl _, fun _ _ => rfl⟩
          have hmid := (h2.sl.mid' (a + s) n (by omega)).below hD
          have hlen : ((l.drop (a + s)).take n).length ≤ 1099511627776 := by simp; omega
          have hNle : N ≤ W2.heap.size := by have := h2.lt; have := h2.le; omega
          have hlc : l.length ≤ c := by obtain ⟨_, _, e, hc, _⟩ := h2.sl; cases e; exact hc
          unfold maxLen at hcm
          have hQ : Q < W2.heap.size := h2.lt
          have hwA : IntKind.i64.wrap ((a : Int) + (s : Int)) = (a : Int) + (s : Int) := by rw [IntKind.wrap_i64]; omega
          have hwB : IntKind.i64.wrap ((a : Int) + (s : Int) + (n : Int) - (n : Int)) = (a : Int) + (s : Int) := by rw [IntKind.wrap_i64]; omega
          have i1 : (0 : Int) ≤ (a : Int) + (s : Int) := by omega
          have i2 : (a : Int) + (s : Int) ≤ (a : Int) + (s : Int) + (n : Int) := by omega
          have i3 : (a : Int) + (s : Int) + (n : Int) ≤ (c : Int) := by omega
          have i4 : (0 : Int) ≤ (a : Int) + (s : Int) + (n : Int) := by omega
          have i5 : ((a : Int) + (s : Int) + (n : Int)).toNat = a + s + n := by omega
          have i6 : ((a : Int) + (s : Int)).toNat = a + s := by omega
          have i7 : a + s + n - (a + s) = n := by omega
          have hz0 : n = 0 → (l.drop (a + s)).take n = [] := fun h => by simp [h]
          generalize hT : (l.drop (a + s)).take n = T at *
          have HT : Hid ((l.drop (a + s)).take n = T) := hT
          clear hT
          have HX : Hid (∀ w3 u, Ow W2.heap.size w3 u T → Below W2.heap.size W2 w3 → Ow w.heap.size w3 u T ∧ Rrd N w3 Q (.slice (some ⟨b, off, none⟩) l.length c) l (a + s + n) 0 ∧ w.grownBy w3 (some Q)) :=
            fun w3 u hO hB => ⟨hO.base hg2.size, h2.below hB (Nat.le_refl _), grown_trans hg2 (Below.grownBy' hB none) (by simp)⟩
          clear h2 hg2
          by_cases hcz : c = a + s
          · have hn0 : n = 0 := by omega
            have hT0 := hz0 hn0
            subst hcz hT0
            have hmid : Sl N W2.drew (.slice (some ⟨b, off, none⟩) n 0) [] := ⟨_, _, by rw [hn0]; rfl, by simp, by unfold maxLen; omega, .inl rfl⟩
            have j1 : (n : Int) ≤ 0 := by omega
            have j2 : (a : Int) + (s : Int) + (n : Int) ≤ (a : Int) + (s : Int) := by omega
            have j3 : n ≤ 0 := by omega
            clear hn0 i2 i3
            go_region_with (go_at_call 19; refine (bytes_any N _ _ _ hmid (by simpa using hNle) hlen).mono ?_; rintro r w3 ⟨u, rfl, hO3, hB3⟩; obtain ⟨a3, c3, rfl, -, -⟩ := hO3.shape)
            all_goals
              have hX := HX.out w3 _ hO3 ⟨hB3.os, hB3.tape, hB3.output, hB3.size, hB3.block⟩
              clear hO3 hB3 hmid
              go_wp2
              go_ret
              rw [HT.out]
              exact ⟨_, rfl, hX⟩
          · have hcz' : ¬ c - (a + s) = 0 := by omega
            have hcz2 : a + s < c := by omega
            have hcz3 : ¬ c ≤ a + s := by omega
            go_region_held3 (fun w' => w'.cell? ⟨Q, 0, none⟩ = some (.slice (some ⟨b, off, none⟩) l.length c) ∧ w'.cell? ⟨Q, 1, none⟩ = some (.int .i64 ((a : Int) + (s : Int) + (n : Int)))) (go_keep)
              (first | (go_at_call 19; refine (bytes_any N _ _ _ hmid (by simpa using hNle) hlen).mono ?_; rintro r w3 ⟨u, rfl, hO3, hB3⟩; obtain ⟨a3, c3, rfl, -, -⟩ := hO3.shape; have q0 := (hB3.cell (p := ⟨Q, 0, none⟩) hQ).trans k0'; have q1 := (hB3.cell (p := ⟨Q, 1, none⟩) hQ).trans k1''))
            have hX := HX.out w3 _ hO3 ⟨hB3.os, hB3.tape, hB3.output, hB3.size, hB3.block⟩
            clear q0 q1 hO3 hB3 hmid
            go_wp2
            go_ret
            rw [HT.out]
            exact ⟨_, rfl, hX⟩
  · rw [if_pos he]
    have he' : ((e' : Int) != 0) = true := by simp; omega
    have hs0 : s = 0 := (b5 he).2
    subst hs0
    clear b3 b5 hin hsl
    go_enter Tryz.func51, Tryz.ntmps51
    go_wp2_with (go_at_call 27; refine hp.mono ?_; rintro r w1 ⟨rfl, h1, hg⟩; obtain ⟨_, k1', k2', f1', f2'⟩ := h1.cells)
    go_ret
    exact ⟨_, rfl, Ow.nil _ _, h1, hg⟩
set_option maxRecDepth 100000 in
set_option maxHeartbeats 1000000 in
theorem qText_any (N Q : Nat) (v : Value) (l : List UInt8) (a e : Nat) (most : Int) (w : World) (h : Rrd N w Q v l a e) (hl : l.length ≤ 1000000) (ha : a ≤ l.length) :
    Calls Tryz.prog 25 #[.pointer (some ⟨Q, 0, none⟩), .int .i64 most] w fun r w' =>
      r = .returned (.string ⟨(takeAt l a e most).1.toArray⟩) ∧ Rrd N w' Q v l (takeAt l a e most).2.1 (takeAt l a e most).2.2 ∧ w.grownBy w' (some Q) := by
  have hp := qBytes_any N Q v l a e most w h hl ha
  generalize takeAt l a e most = p at *
  obtain ⟨t, a', e'⟩ := p
  simp only at hp ⊢
  go_enter Tryz.func25, Tryz.ntmps25
  go_wp2_with (go_at_call 51; refine hp.mono ?_; rintro r w1 ⟨v1, rfl, ho1, h1, hg1⟩; have hs1 := ho1.sl (Nat.le_refl _); have hcv := conv_sl hs1; obtain ⟨b, cap, rfl, -⟩ := id hs1)
  go_ret
  exact ⟨rfl, h1, hg1⟩

/-- The document's reader. -/
structure Rq (w0 w : World) (Q : Nat) (v : Value) (l : List UInt8) (p e : Nat) : Prop where
  rrd : Rrd w0.heap.size w Q v l p e
  bel : Below w0.heap.size w0 w
  len : l.length ≤ 1000000
  le : p ≤ l.length

theorem Rq.mono {w0 w w' : World} {Q : Nat} {v : Value} {l : List UInt8} {p e : Nat} (h : Rq w0 w Q v l p e) (hB : Below w.heap.size w w') : Rq w0 w' Q v l p e :=
  ⟨h.rrd.below hB (Nat.le_refl _), h.bel.trans (hB.mono h.bel.size), h.len, h.le⟩

theorem Rq.turn {w0 w w' : World} {Q : Nat} {v : Value} {l : List UInt8} {p e p' e' : Nat} (h : Rq w0 w Q v l p e) (h' : Rrd w0.heap.size w' Q v l p' e') (hg : w.grownBy w' (some Q)) (hp : p' ≤ l.length) : Rq w0 w' Q v l p' e' :=
  ⟨h', h.bel.grown hg h.bel.size (fun k e => by cases e; exact h.rrd.le), h.len, hp⟩

theorem newQ {M : Nat} {w : World} {v : Value} {l : List UInt8} (hv : Sl M w v l) (hM : M ≤ w.heap.size) (hl : l.length ≤ 1000000) : Rq w (w.alloc (.cells #[v, .int .i64 0, .int .i64 0] 59)) w.heap.size v l 0 0 := by
  have hB : Below w.heap.size w (w.alloc (.cells #[v, .int .i64 0, .int .i64 0] 59)) := (Below.refl _ w).alloc (Nat.le_refl _) _
  exact ⟨⟨Nat.le_refl _, World.alloc_heap_new w _, (hv.below (hB.mono hM)).mono hM⟩, hB, hl, Nat.zero_le _⟩

theorem rqInt_any {w0 w : World} {Q : Nat} {v : Value} {l : List UInt8} {a e n a' e' : Nat} (h : Rq w0 w Q v l a e) (hr : rdN l (a, e) = (n, (a', e'))) :
    Calls Tryz.prog 27 #[.pointer (some ⟨Q, 0, none⟩)] w fun r w' => r = .returned (.int .i64 (n : Int)) ∧ Rq w0 w' Q v l a' e' := by
  have hle := rdN_le l (a, e) h.le
  refine (qInt_any _ Q v l a e w h.rrd h.len h.le).mono ?_
  rintro r w' ⟨rfl, h', hg⟩
  rw [hr] at hle
  simp only [rdN, Prod.mk.injEq] at hr
  obtain ⟨rfl, rfl, rfl⟩ := hr
  exact ⟨rfl, h.turn h' hg hle⟩

theorem rqText_any {w0 w : World} {Q : Nat} {v : Value} {l t : List UInt8} {a e a' e' : Nat} (most : Int) (h : Rq w0 w Q v l a e) (hr : rdB l most (a, e) = (t, (a', e'))) :
    Calls Tryz.prog 25 #[.pointer (some ⟨Q, 0, none⟩), .int .i64 most] w fun r w' => r = .returned (.string ⟨t.toArray⟩) ∧ Rq w0 w' Q v l a' e' := by
  have hle := rdB_le l most (a, e) h.le
  refine (qText_any _ Q v l a e most w h.rrd h.len h.le).mono ?_
  rintro r w' ⟨rfl, h', hg⟩
  rw [hr] at hle
  simp only [rdB, Prod.mk.injEq] at hr
  obtain ⟨rfl, rfl, rfl⟩ := hr
  exact ⟨rfl, h.turn h' hg hle⟩

theorem rqDone_any {w0 w : World} {Q : Nat} {v : Value} {l : List UInt8} {a e : Nat} (h : Rq w0 w Q v l a e) :
    Calls Tryz.prog 28 #[.pointer (some ⟨Q, 0, none⟩)] w fun r w' => r = .returned (.int .i64 (doneE l a e : Int)) ∧ Below w.heap.size w w' := by
  refine (qDone_any _ Q v l a e w h.rrd h.len h.le).mono ?_
  rintro r w' ⟨rfl, n, rfl⟩
  exact ⟨rfl, rfl, rfl, rfl, Nat.le_refl _, fun _ _ => rfl⟩
end Go.Proofs.YtglhjgfaelfleaaGreat
