/-
  does, some kinds of operations. does, some kinds of operations. does, some kinds of operations. does, some kinds of operations. does, some kinds of operations. does, some kinds of operations. does, some kinds of operations. does, some kinds of operations.
-/
import Derived.Test.YteekpfgjpdopmaaDz
import Derived.Deep.RegionHeld3
import Derived.Test.YteekpfgjpdopmaaDy
namespace Go.Proofs.Yteekpfgjpdopmaa
open Go.RowKit
set_option linter.unusedVariables false

set_option maxRecDepth 100000 in
set_option maxHeartbeats 8000000 in
theorem does2_any {N : Nat} {S T : Nat → Prop} {w : World} {b d : Nat} {P : PL} (h : Bw N S T w b d P P) (n t m : Int) (ea : Option Addr) (el ec : Nat) (ba : Option Addr) (bl bc : Nat) :
    Calls Try.prog 14 #[.pointer (some ⟨b, 0, none⟩), .pointer (some ⟨d, 0, none⟩), .agg #[.int .i64 2, .int .i64 n, .int .i64 t, .int .i64 m, .slice ea el ec, .slice ba bl bc]] w fun e w' => Dn8 N w b d e w' := by
  obtain ⟨W, HW⟩ : ∃ W, Hid ((((w.alloc (.cells #[.pointer (some ⟨b, 0, none⟩)] 25)).alloc (.cells #[.pointer (some ⟨d, 0, none⟩)] 29)).alloc (.cells #[.int .i64 2, .int .i64 n, .int .i64 t, .int .i64 m, .slice ea el ec, .slice ba bl bc] 37)) = W) := ⟨_, rfl⟩
  have HD0 := Dz.start h 2 n t m (.slice ea el ec) (.slice ba bl bc)
  rw [HW.out] at HD0
  have HD : Hid (Dz N S T w W b d w.heap.size P P 2 n t m (.slice ea el ec) (.slice ba bl bc)) := HD0
  obtain ⟨⟨c0, c1⟩, c2, c3, c4, c5, c6, c7⟩ := HD0.cells
  have hW3 : w.heap.size + 3 ≤ W.heap.size := HD0.hX
  have hl0 : w.heap.size < W.heap.size := by omega
  have hl1 : w.heap.size + 1 < W.heap.size := by omega
  have hl2 : w.heap.size + 2 < W.heap.size := by omega
  have hBd : Below W.heap.size W W.drew := (Below.refl _ _).drew
  have HD1 : Hid (Dz N S T w W.drew b d w.heap.size P P 2 n t m (.slice ea el ec) (.slice ba bl bc)) := HD.out.below hBd
  have C1 := Commit_any HD1.out.bw.l HD1.out.bw.hN n
  have HC2 : Hid (∀ V T', Rg N T' V d P → N ≤ V.heap.size → _) := fun V T' hr hn => RCommit_any hr n
  generalize decide (P.c < min n P.li) = an at *
  generalize coP P n = P1 at *
  have HC1 : Hid (Calls _ _ _ _ _) := C1
  clear C1 h HD0 hBd
  go_enter Try.func14, Try.ntmps14
  go_wp2_with fail
  rw [HW.out]
  go_region_held3 (fun V => V.cell? ⟨w.heap.size, 0, none⟩ = some (.pointer (some ⟨b, 0, none⟩)) ∧ V.cell? ⟨w.heap.size + 1, 0, none⟩ = some (.pointer (some ⟨d, 0, none⟩)) ∧ V.cell? ⟨w.heap.size + 2, 1, none⟩ = some (.int .i64 n)) (go_keep)
    (first
            | (go_at_call 29; refine HC1.out.mono ?_; rintro r w1 ⟨rfl, t1⟩; have HD2 : Hid (Dz N _ T w w1 b d w.heap.size P1 P 2 n t m (.slice ea el ec) (.slice ba bl bc)) := HD1.out.one (t1.th HD1.out.bw.hN); obtain ⟨⟨y0, y1⟩, -, y3, y4, -, -, -⟩ := HD2.out.cells; have C2 := HC2.out w1 T HD2.out.bw.r HD2.out.bw.hN; have HC3 : Hid (Calls _ _ _ _ _) := C2; have z1 := HD2.out.hX; have z2 : w.heap.size < w1.heap.size := Nat.lt_of_lt_of_le (Nat.lt_add_of_pos_right (by decide)) z1; clear t1 C2)
            | (go_at_call 47; refine HC3.out.mono ?_; rintro r w2 ⟨rfl, t2⟩; have HD3 : Hid (Dz N _ _ w w2 b d w.heap.size P1 P1 2 n t m (.slice ea el ec) (.slice ba bl bc)) := HD2.out.two (t2.th HD2.out.bw.hN); obtain ⟨⟨x0, x1⟩, -, x3, x4, -, -, -⟩ := HD3.out.cells; have z3 := HD3.out.hX; clear t2)
            | fail)
  all_goals
    go_wp2
    go_ret
    exact HD3.out.dn (by simp)
end Go.Proofs.Yteekpfgjpdopmaa
namespace Go.Proofs.Yteekpfgjpdopmaa
open Go.RowKit
set_option linter.unusedVariables false

set_option maxRecDepth 100000 in
set_option maxHeartbeats 8000000 in
theorem does3_any {N : Nat} {S T : Nat → Prop} {w : World} {b d : Nat} {P : PL} (h : Bw N S T w b d P P) (n t m : Int) (ea : Option Addr) (el ec : Nat) (ba : Option Addr) (bl bc : Nat) :
    Calls Try.prog 14 #[.pointer (some ⟨b, 0, none⟩), .pointer (some ⟨d, 0, none⟩), .agg #[.int .i64 3, .int .i64 n, .int .i64 t, .int .i64 m, .slice ea el ec, .slice ba bl bc]] w fun e w' => Dn8 N w b d e w' := by
  obtain ⟨W, HW⟩ : ∃ W, Hid ((((w.alloc (.cells #[.pointer (some ⟨b, 0, none⟩)] 25)).alloc (.cells #[.pointer (some ⟨d, 0, none⟩)] 29)).alloc (.cells #[.int .i64 3, .int .i64 n, .int .i64 t, .int .i64 m, .slice ea el ec, .slice ba bl bc] 37)) = W) := ⟨_, rfl⟩
  have HD0 := Dz.start h 3 n t m (.slice ea el ec) (.slice ba bl bc)
  rw [HW.out] at HD0
  have HD : Hid (Dz N S T w W b d w.heap.size P P 3 n t m (.slice ea el ec) (.slice ba bl bc)) := HD0
  obtain ⟨⟨c0, c1⟩, c2, c3, c4, c5, c6, c7⟩ := HD0.cells
  have hW3 : w.heap.size + 3 ≤ W.heap.size := HD0.hX
  have hl0 : w.heap.size < W.heap.size := by omega
  have hl1 : w.heap.size + 1 < W.heap.size := by omega
  have hl2 : w.heap.size + 2 < W.heap.size := by omega
  have hlen : (haE P).length ≤ 10000 := haE_len h.l.ok
  have C1 := Hand_any HD0.bw.l HD0.bw.hN
  have HC2 : Hid (∀ V T' P', Dz N S T' w V b d w.heap.size P' P 3 n t m (.slice ea el ec) (.slice ba bl bc) → _) := fun V T' P' hr => RHand_any hr.bw.r
  have HST : Hid ((∀ i, S i → i < W.heap.size) ∧ (∀ i, T i → i < W.heap.size) ∧ N ≤ W.heap.size) := ⟨HD0.bw.l.inn, HD0.bw.r.inn, HD0.bw.hN⟩
  generalize haE P = LL at *
  generalize haP P = P1 at *
  have HC1 : Hid (Calls _ _ _ _ _) := C1
  clear C1 h HD0
  go_enter Try.func14, Try.ntmps14
  go_wp2_with fail
  rw [HW.out]
  refine HC1.out.mono ?_
  rintro r w1 ⟨v1, f1, rfl, hE1, hs1, k1⟩
  obtain ⟨a1, cc1, rfl, -, -⟩ := hE1.shape
  have HD2 : Hid (Dz N S T w w1 b d w.heap.size P1 P 3 n t m (.slice ea el ec) (.slice ba bl bc)) := HD.out.oneK k1
  have HE1 : Hid (EntsOw W.heap.size w1 (.slice a1 f1.length cc1) f1) := hE1
  have HS1 : Hid (f1.map Ent.says = LL) := hs1
  have hW1 : W.heap.size ≤ w1.heap.size := k1.out.size
  obtain ⟨⟨y0, y1⟩, y2, y3, y4, y5, y6, y7⟩ := HD2.out.cells
  have C2 := HC2.out w1 T P1 HD2.out
  have HC3 : Hid (Calls _ _ _ _ _) := C2
  clear C2 hE1 hs1 k1 HC1 HC2 c0 c1 c2 c3 c4 c5 c6 c7
  go_wp2_with fail
  refine HC3.out.mono ?_
  rintro r w2 ⟨v2, f2, rfl, hE2, hs2, k2⟩
  obtain ⟨a2, cc2, rfl, -, -⟩ := hE2.shape
  have HD3 : Hid (Dz N S T w w2 b d w.heap.size P1 P1 3 n t m (.slice ea el ec) (.slice ba bl bc)) := HD2.out.twoK k2
  have HE2 : Hid (EntsOw W.heap.size w2 (.slice a1 f1.length cc1) f1) := HE1.out.out k2.out (fun g hg ht => by have := HST.out.2.1 g ht; have := (HE1.out.lt hg).1; omega) (fun e he g hg ht => by have := HST.out.2.1 g ht; have := ((HE1.out.dat e he).lt hg).1; omega)
  have hfl : f1.length ≤ 10000 := by have := congrArg List.length HS1.out; simp at this; omega
  have C3 := sameEntries_any a1 a2 cc1 cc2 f1 f2 w2.heap.size w2 HE2.out.at hE2.at (Nat.le_refl _) (by omega)
  rw [HS1.out, hs2, decide_eq_true rfl] at C3
  have HC4 : Hid (Calls _ _ _ _ _) := C3
  clear C3 hE2 hs2 k2 HC3 HE1 HD2 y0 y1 y2 y3 y4 y5 y6 y7 hW1
  go_wp2_with fail
  refine HC4.out.mono ?_
  rintro r w3 ⟨rfl, hB3⟩
  have HD4 : Hid (Dz N S T w w3 b d w.heap.size P1 P1 3 n t m (.slice ea el ec) (.slice ba bl bc)) := HD3.out.below hB3
  have HE3 : Hid (EntsOw W.heap.size w3 (.slice a1 f1.length cc1) f1) := HE2.out.below hB3
  have C4 := over_any HE3.out.ov (by omega)
  have HC5 : Hid (Calls _ _ _ _ _) := C4
  clear C4 hB3 HC4 HE2 HD3 hfl
  go_wp2_with fail
  refine HC5.out.mono ?_
  rintro r w4 ⟨rfl, hO⟩
  have HD5 : Hid (Dz N S T w w4 b d w.heap.size P1 P1 3 n t m (.slice ea el ec) (.slice ba bl bc)) := HD4.out.off hO (fun i hi hs => by have := (HE3.out.ov.lt hi).1; have := HST.out.1 i hs; omega) (fun i hi hs => by have := (HE3.out.ov.lt hi).1; have := HST.out.2.1 i hs; omega) (fun i hi => by have := (HE3.out.ov.lt hi).1; omega) (fun i hi => by have := (HE3.out.ov.lt hi).1; have := HST.out.2.2; omega)
  clear hO HC5
  go_wp2
  go_ret
  exact HD5.out.dn (by simp)
end Go.Proofs.Yteekpfgjpdopmaa
namespace Go.Proofs.Yteekpfgjpdopmaa
open Go.RowKit
set_option linter.unusedVariables false

set_option maxRecDepth 100000 in
set_option maxHeartbeats 8000000 in
theorem does4_any {N : Nat} {S T : Nat → Prop} {w : World} {b d : Nat} {P : PL} (h : Bw N S T w b d P P) (n t m : Int) (ea : Option Addr) (el ec : Nat) (ba : Option Addr) (bl bc : Nat) :
    Calls Try.prog 14 #[.pointer (some ⟨b, 0, none⟩), .pointer (some ⟨d, 0, none⟩), .agg #[.int .i64 4, .int .i64 n, .int .i64 t, .int .i64 m, .slice ea el ec, .slice ba bl bc]] w fun e w' => Dn8 N w b d e w' := by
  obtain ⟨W, HW⟩ : ∃ W, Hid ((((w.alloc (.cells #[.pointer (some ⟨b, 0, none⟩)] 25)).alloc (.cells #[.pointer (some ⟨d, 0, none⟩)] 29)).alloc (.cells #[.int .i64 4, .int .i64 n, .int .i64 t, .int .i64 m, .slice ea el ec, .slice ba bl bc] 37)) = W) := ⟨_, rfl⟩
  have HD0 := Dz.start h 4 n t m (.slice ea el ec) (.slice ba bl bc)
  rw [HW.out] at HD0
  have HD : Hid (Dz N S T w W b d w.heap.size P P 4 n t m (.slice ea el ec) (.slice ba bl bc)) := HD0
  obtain ⟨⟨c0, c1⟩, c2, c3, c4, c5, c6, c7⟩ := HD0.cells
  have hW3 : w.heap.size + 3 ≤ W.heap.size := HD0.hX
  have hl0 : w.heap.size < W.heap.size := by omega
  have hl1 : w.heap.size + 1 < W.heap.size := by omega
  have hl2 : w.heap.size + 2 < W.heap.size := by omega
  have hBd : Below W.heap.size W W.drew := (Below.refl _ _).drew
  have HD1 : Hid (Dz N S T w W.drew b d w.heap.size P P 4 n t m (.slice ea el ec) (.slice ba bl bc)) := HD.out.below hBd
  have C1 := Stable_any HD1.out.bw.l HD1.out.bw.hN n t
  have HC2 : Hid (∀ V T', Rg N T' V d P → N ≤ V.heap.size → _) := fun V T' hr hn => RSync_any hr n t
  generalize decide (P.s < n ∧ n ≤ P.h ∧ P.has n t = true) = an at *
  generalize stP P n t = P1 at *
  have HC1 : Hid (Calls _ _ _ _ _) := C1
  clear C1 h HD0 hBd
  go_enter Try.func14, Try.ntmps14
  go_wp2_with fail
  rw [HW.out]
  go_region_held3 (fun V => V.cell? ⟨w.heap.size, 0, none⟩ = some (.pointer (some ⟨b, 0, none⟩)) ∧ V.cell? ⟨w.heap.size + 1, 0, none⟩ = some (.pointer (some ⟨d, 0, none⟩)) ∧ V.cell? ⟨w.heap.size + 2, 1, none⟩ = some (.int .i64 n) ∧ V.cell? ⟨w.heap.size + 2, 2, none⟩ = some (.int .i64 t)) (go_keep)
    (first
            | (go_at_call 31; refine HC1.out.mono ?_; rintro r w1 ⟨rfl, t1⟩; have HD2 : Hid (Dz N _ T w w1 b d w.heap.size P1 P 4 n t m (.slice ea el ec) (.slice ba bl bc)) := HD1.out.one (t1.th HD1.out.bw.hN); obtain ⟨⟨y0, y1⟩, -, y3, y4, -, -, -⟩ := HD2.out.cells; have C2 := HC2.out w1 T HD2.out.bw.r HD2.out.bw.hN; have HC3 : Hid (Calls _ _ _ _ _) := C2; have z1 := HD2.out.hX; have z2 : w.heap.size < w1.heap.size := Nat.lt_of_lt_of_le (Nat.lt_add_of_pos_right (by decide)) z1; clear t1 C2)
            | (go_at_call 52; refine HC3.out.mono ?_; rintro r w2 ⟨rfl, t2⟩; have HD3 : Hid (Dz N _ _ w w2 b d w.heap.size P1 P1 4 n t m (.slice ea el ec) (.slice ba bl bc)) := HD2.out.two (t2.th HD2.out.bw.hN); obtain ⟨⟨x0, x1⟩, -, x3, x4, -, -, -⟩ := HD3.out.cells; have z3 := HD3.out.hX; clear t2)
            | fail)
  all_goals
    go_wp2
    go_ret
    exact HD3.out.dn (by simp)
end Go.Proofs.Yteekpfgjpdopmaa
namespace Go.Proofs.Yteekpfgjpdopmaa
open Go.RowKit
set_option linter.unusedVariables false

set_option maxRecDepth 100000 in
set_option maxHeartbeats 8000000 in
theorem does5_any {N : Nat} {S T : Nat → Prop} {w : World} {b d : Nat} {P : PL} (h : Bw N S T w b d P P) (n t m : Int) (ea : Option Addr) (el ec : Nat) (ba : Option Addr) (bl bc : Nat) :
    Calls Try.prog 14 #[.pointer (some ⟨b, 0, none⟩), .pointer (some ⟨d, 0, none⟩), .agg #[.int .i64 5, .int .i64 n, .int .i64 t, .int .i64 m, .slice ea el ec, .slice ba bl bc]] w fun e w' => Dn8 N w b d e w' := by
  obtain ⟨W, HW⟩ : ∃ W, Hid ((((w.alloc (.cells #[.pointer (some ⟨b, 0, none⟩)] 25)).alloc (.cells #[.pointer (some ⟨d, 0, none⟩)] 29)).alloc (.cells #[.int .i64 5, .int .i64 n, .int .i64 t, .int .i64 m, .slice ea el ec, .slice ba bl bc] 37)) = W) := ⟨_, rfl⟩
  have HD0 := Dz.start h 5 n t m (.slice ea el ec) (.slice ba bl bc)
  rw [HW.out] at HD0
  have HD : Hid (Dz N S T w W b d w.heap.size P P 5 n t m (.slice ea el ec) (.slice ba bl bc)) := HD0
  obtain ⟨⟨c0, c1⟩, c2, c3, c4, c5, c6, c7⟩ := HD0.cells
  have hW3 : w.heap.size + 3 ≤ W.heap.size := HD0.hX
  have hl0 : w.heap.size < W.heap.size := by omega
  have hl1 : w.heap.size + 1 < W.heap.size := by omega
  have hl2 : w.heap.size + 2 < W.heap.size := by omega
  have hlen : (nxE P n).length ≤ 10000 := nxE_len h.l.ok n
  have C1 := clo1_any (X := w.heap.size) c0 c3 (Next_any HD0.bw.l HD0.bw.hN n)
  have HC2 : Hid (∀ V T' P', Dz N S T' w V b d w.heap.size P' P 5 n t m (.slice ea el ec) (.slice ba bl bc) → _) := fun V T' P' hr => clo2_any (X := w.heap.size) hr.cells.1.2 hr.cells.2.2.1 (RNext_any hr.bw.r n)
  have HST : Hid ((∀ i, S i → i < W.heap.size) ∧ (∀ i, T i → i < W.heap.size) ∧ N ≤ W.heap.size) := ⟨HD0.bw.l.inn, HD0.bw.r.inn, HD0.bw.hN⟩
  generalize nxE P n = LL at *
  generalize nxP P n = P1 at *
  have HC1 : Hid (Calls _ _ _ _ _) := C1
  clear C1 h HD0
  go_enter Try.func14, Try.ntmps14
  go_wp2_with fail
  rw [HW.out]
  refine HC1.out.mono ?_
  rintro r w1 ⟨v1, f1, rfl, hE1, hs1, k1⟩
  obtain ⟨a1, cc1, rfl, -, -⟩ := hE1.shape
  have HD2 : Hid (Dz N S T w w1 b d w.heap.size P1 P 5 n t m (.slice ea el ec) (.slice ba bl bc)) := HD.out.oneK k1
  have HE1 : Hid (EntsOw W.heap.size w1 (.slice a1 f1.length cc1) f1) := hE1
  have HS1 : Hid (f1.map Ent.says = LL) := hs1
  have hW1 : W.heap.size ≤ w1.heap.size := k1.out.size
  obtain ⟨⟨y0, y1⟩, y2, y3, y4, y5, y6, y7⟩ := HD2.out.cells
  have C2 := HC2.out w1 T P1 HD2.out
  have HC3 : Hid (Calls _ _ _ _ _) := C2
  clear C2 hE1 hs1 k1 HC1 HC2 c0 c1 c2 c3 c4 c5 c6 c7
  go_wp2_with fail
  refine HC3.out.mono ?_
  rintro r w2 ⟨v2, f2, rfl, hE2, hs2, k2⟩
  obtain ⟨a2, cc2, rfl, -, -⟩ := hE2.shape
  have HD3 : Hid (Dz N S T w w2 b d w.heap.size P1 P1 5 n t m (.slice ea el ec) (.slice ba bl bc)) := HD2.out.twoK k2
  have HE2 : Hid (EntsOw W.heap.size w2 (.slice a1 f1.length cc1) f1) := HE1.out.out k2.out (fun g hg ht => by have := HST.out.2.1 g ht; have := (HE1.out.lt hg).1; omega) (fun e he g hg ht => by have := HST.out.2.1 g ht; have := ((HE1.out.dat e he).lt hg).1; omega)
  have hfl : f1.length ≤ 10000 := by have := congrArg List.length HS1.out; simp at this; omega
  have C3 := sameEntries_any a1 a2 cc1 cc2 f1 f2 w2.heap.size w2 HE2.out.at hE2.at (Nat.le_refl _) (by omega)
  rw [HS1.out, hs2, decide_eq_true rfl] at C3
  have HC4 : Hid (Calls _ _ _ _ _) := C3
  clear C3 hE2 hs2 k2 HC3 HE1 HD2 y0 y1 y2 y3 y4 y5 y6 y7 hW1
  go_wp2_with fail
  refine HC4.out.mono ?_
  rintro r w3 ⟨rfl, hB3⟩
  have HD4 : Hid (Dz N S T w w3 b d w.heap.size P1 P1 5 n t m (.slice ea el ec) (.slice ba bl bc)) := HD3.out.below hB3
  have HE3 : Hid (EntsOw W.heap.size w3 (.slice a1 f1.length cc1) f1) := HE2.out.below hB3
  have C4 := over_any HE3.out.ov (by omega)
  have HC5 : Hid (Calls _ _ _ _ _) := C4
  clear C4 hB3 HC4 HE2 HD3 hfl
  go_wp2_with fail
  refine HC5.out.mono ?_
  rintro r w4 ⟨rfl, hO⟩
  have HD5 : Hid (Dz N S T w w4 b d w.heap.size P1 P1 5 n t m (.slice ea el ec) (.slice ba bl bc)) := HD4.out.off hO (fun i hi hs => by have := (HE3.out.ov.lt hi).1; have := HST.out.1 i hs; omega) (fun i hi hs => by have := (HE3.out.ov.lt hi).1; have := HST.out.2.1 i hs; omega) (fun i hi => by have := (HE3.out.ov.lt hi).1; omega) (fun i hi => by have := (HE3.out.ov.lt hi).1; have := HST.out.2.2; omega)
  clear hO HC5
  go_wp2
  go_ret
  exact HD5.out.dn (by simp)
end Go.Proofs.Yteekpfgjpdopmaa
namespace Go.Proofs.Yteekpfgjpdopmaa
open Go.RowKit
set_option linter.unusedVariables false

set_option maxRecDepth 100000 in
set_option maxHeartbeats 8000000 in
theorem does6_any {N : Nat} {S T : Nat → Prop} {w : World} {b d : Nat} {P : PL} (h : Bw N S T w b d P P) (n t m : Int) (ea : Option Addr) (el ec : Nat) (ba : Option Addr) (bl bc : Nat) :
    Calls Try.prog 14 #[.pointer (some ⟨b, 0, none⟩), .pointer (some ⟨d, 0, none⟩), .agg #[.int .i64 6, .int .i64 n, .int .i64 t, .int .i64 m, .slice ea el ec, .slice ba bl bc]] w fun e w' => Dn8 N w b d e w' := by
  obtain ⟨W, HW⟩ : ∃ W, Hid ((((w.alloc (.cells #[.pointer (some ⟨b, 0, none⟩)] 25)).alloc (.cells #[.pointer (some ⟨d, 0, none⟩)] 29)).alloc (.cells #[.int .i64 6, .int .i64 n, .int .i64 t, .int .i64 m, .slice ea el ec, .slice ba bl bc] 37)) = W) := ⟨_, rfl⟩
  have HD0 := Dz.start h 6 n t m (.slice ea el ec) (.slice ba bl bc)
  rw [HW.out] at HD0
  have HD : Hid (Dz N S T w W b d w.heap.size P P 6 n t m (.slice ea el ec) (.slice ba bl bc)) := HD0
  obtain ⟨⟨c0, c1⟩, c2, c3, c4, c5, c6, c7⟩ := HD0.cells
  have hW3 : w.heap.size + 3 ≤ W.heap.size := HD0.hX
  have hl0 : w.heap.size < W.heap.size := by omega
  have hl1 : w.heap.size + 1 < W.heap.size := by omega
  have hl2 : w.heap.size + 2 < W.heap.size := by omega
  have hBd : Below W.heap.size W W.drew := (Below.refl _ _).drew
  have HD1 : Hid (Dz N S T w W.drew b d w.heap.size P P 6 n t m (.slice ea el ec) (.slice ba bl bc)) := HD.out.below hBd
  have C1 := Applied_any HD1.out.bw.l HD1.out.bw.hN n
  have HC2 : Hid (∀ V T', Rg N T' V d P → N ≤ V.heap.size → _) := fun V T' hr hn => RApply_any hr n
  generalize decide (P.a < n ∧ n ≤ P.g) = an at *
  generalize adP P n = P1 at *
  have HC1 : Hid (Calls _ _ _ _ _) := C1
  clear C1 h HD0 hBd
  go_enter Try.func14, Try.ntmps14
  go_wp2_with fail
  rw [HW.out]
  go_region_held3 (fun V => V.cell? ⟨w.heap.size, 0, none⟩ = some (.pointer (some ⟨b, 0, none⟩)) ∧ V.cell? ⟨w.heap.size + 1, 0, none⟩ = some (.pointer (some ⟨d, 0, none⟩)) ∧ V.cell? ⟨w.heap.size + 2, 1, none⟩ = some (.int .i64 n)) (go_keep)
    (first
            | (go_at_call 33; refine HC1.out.mono ?_; rintro r w1 ⟨rfl, t1⟩; have HD2 : Hid (Dz N _ T w w1 b d w.heap.size P1 P 6 n t m (.slice ea el ec) (.slice ba bl bc)) := HD1.out.one (t1.th HD1.out.bw.hN); obtain ⟨⟨y0, y1⟩, -, y3, y4, -, -, -⟩ := HD2.out.cells; have C2 := HC2.out w1 T HD2.out.bw.r HD2.out.bw.hN; have HC3 : Hid (Calls _ _ _ _ _) := C2; have z1 := HD2.out.hX; have z2 : w.heap.size < w1.heap.size := Nat.lt_of_lt_of_le (Nat.lt_add_of_pos_right (by decide)) z1; clear t1 C2)
            | (go_at_call 53; refine HC3.out.mono ?_; rintro r w2 ⟨rfl, t2⟩; have HD3 : Hid (Dz N _ _ w w2 b d w.heap.size P1 P1 6 n t m (.slice ea el ec) (.slice ba bl bc)) := HD2.out.two (t2.th HD2.out.bw.hN); obtain ⟨⟨x0, x1⟩, -, x3, x4, -, -, -⟩ := HD3.out.cells; have z3 := HD3.out.hX; clear t2)
            | fail)
  all_goals
    go_wp2
    go_ret
    exact HD3.out.dn (by simp)
end Go.Proofs.Yteekpfgjpdopmaa
namespace Go.Proofs.Yteekpfgjpdopmaa
open Go.RowKit
set_option linter.unusedVariables false

set_option maxRecDepth 100000 in
set_option maxHeartbeats 8000000 in
theorem does7_any {N : Nat} {S T : Nat → Prop} {w : World} {b d : Nat} {P : PL} (h : Bw N S T w b d P P) (n t m : Int) (ea : Option Addr) (el ec : Nat) (ba : Option Addr) (bl bc : Nat) :
    Calls Try.prog 14 #[.pointer (some ⟨b, 0, none⟩), .pointer (some ⟨d, 0, none⟩), .agg #[.int .i64 7, .int .i64 n, .int .i64 t, .int .i64 m, .slice ea el ec, .slice ba bl bc]] w fun e w' => Dn8 N w b d e w' := by
  obtain ⟨W, HW⟩ : ∃ W, Hid ((((w.alloc (.cells #[.pointer (some ⟨b, 0, none⟩)] 25)).alloc (.cells #[.pointer (some ⟨d, 0, none⟩)] 29)).alloc (.cells #[.int .i64 7, .int .i64 n, .int .i64 t, .int .i64 m, .slice ea el ec, .slice ba bl bc] 37)) = W) := ⟨_, rfl⟩
  have HD0 := Dz.start h 7 n t m (.slice ea el ec) (.slice ba bl bc)
  rw [HW.out] at HD0
  have HD : Hid (Dz N S T w W b d w.heap.size P P 7 n t m (.slice ea el ec) (.slice ba bl bc)) := HD0
  obtain ⟨⟨c0, c1⟩, c2, c3, c4, c5, c6, c7⟩ := HD0.cells
  have hW3 : w.heap.size + 3 ≤ W.heap.size := HD0.hX
  have hl0 : w.heap.size < W.heap.size := by omega
  have hl1 : w.heap.size + 1 < W.heap.size := by omega
  have hl2 : w.heap.size + 2 < W.heap.size := by omega
  have hBd : Below W.heap.size W W.drew := (Below.refl _ _).drew
  have HD1 : Hid (Dz N S T w W.drew b d w.heap.size P P 7 n t m (.slice ea el ec) (.slice ba bl bc)) := HD.out.below hBd
  have C1 := Compact_any HD1.out.bw.l HD1.out.bw.hN n
  have HC2 : Hid (∀ V T', Rg N T' V d P → N ≤ V.heap.size → _) := fun V T' hr hn => RCompact_any hr hn n
  generalize cmE P n = an at *
  generalize cmP P n = P1 at *
  have HC1 : Hid (Calls _ _ _ _ _) := C1
  clear C1 h HD0 hBd
  go_enter Try.func14, Try.ntmps14
  go_wp2_with fail
  rw [HW.out]
  go_region_held3 (fun V => V.cell? ⟨w.heap.size, 0, none⟩ = some (.pointer (some ⟨b, 0, none⟩)) ∧ V.cell? ⟨w.heap.size + 1, 0, none⟩ = some (.pointer (some ⟨d, 0, none⟩)) ∧ V.cell? ⟨w.heap.size + 2, 1, none⟩ = some (.int .i64 n)) (go_keep)
    (first
            | (go_at_call 34; refine HC1.out.mono ?_; rintro r w1 ⟨rfl, t1⟩; have HD2 : Hid (Dz N _ T w w1 b d w.heap.size P1 P 7 n t m (.slice ea el ec) (.slice ba bl bc)) := HD1.out.one (t1); obtain ⟨⟨y0, y1⟩, -, y3, y4, -, -, -⟩ := HD2.out.cells; have C2 := HC2.out w1 T HD2.out.bw.r HD2.out.bw.hN; have HC3 : Hid (Calls _ _ _ _ _) := C2; have z1 := HD2.out.hX; have z2 : w.heap.size < w1.heap.size := Nat.lt_of_lt_of_le (Nat.lt_add_of_pos_right (by decide)) z1; clear t1 C2)
            | (go_at_call 54; refine HC3.out.mono ?_; rintro r w2 ⟨rfl, t2⟩; have HD3 : Hid (Dz N _ _ w w2 b d w.heap.size P1 P1 7 n t m (.slice ea el ec) (.slice ba bl bc)) := HD2.out.two (t2); obtain ⟨⟨x0, x1⟩, -, x3, x4, -, -, -⟩ := HD3.out.cells; have z3 := HD3.out.hX; clear t2)
            | (go_at_call 13; refine (num_any _ _).mono ?_; rintro r wz ⟨rfl, hz⟩; subst wz)
            | fail)
  all_goals
    go_wp2
    go_ret
    exact HD3.out.dn (by simp)
end Go.Proofs.Yteekpfgjpdopmaa
namespace Go.Proofs.Yteekpfgjpdopmaa
open Go.RowKit
set_option linter.unusedVariables false

set_option maxRecDepth 100000 in
set_option maxHeartbeats 8000000 in
theorem does8_any {N : Nat} {S T : Nat → Prop} {w : World} {b d : Nat} {P : PL} (h : Bw N S T w b d P P) (n t m : Int) (ea : Option Addr) (el ec : Nat) (ba : Option Addr) (bl bc : Nat) :
    Calls Try.prog 14 #[.pointer (some ⟨b, 0, none⟩), .pointer (some ⟨d, 0, none⟩), .agg #[.int .i64 8, .int .i64 n, .int .i64 t, .int .i64 m, .slice ea el ec, .slice ba bl bc]] w fun e w' => Dn8 N w b d e w' := by
  obtain ⟨W, HW⟩ : ∃ W, Hid ((((w.alloc (.cells #[.pointer (some ⟨b, 0, none⟩)] 25)).alloc (.cells #[.pointer (some ⟨d, 0, none⟩)] 29)).alloc (.cells #[.int .i64 8, .int .i64 n, .int .i64 t, .int .i64 m, .slice ea el ec, .slice ba bl bc] 37)) = W) := ⟨_, rfl⟩
  have HD0 := Dz.start h 8 n t m (.slice ea el ec) (.slice ba bl bc)
  rw [HW.out] at HD0
  have HD : Hid (Dz N S T w W b d w.heap.size P P 8 n t m (.slice ea el ec) (.slice ba bl bc)) := HD0
  obtain ⟨⟨c0, c1⟩, c2, c3, c4, c5, c6, c7⟩ := HD0.cells
  have hW3 : w.heap.size + 3 ≤ W.heap.size := HD0.hX
  have hl0 : w.heap.size < W.heap.size := by omega
  have hl1 : w.heap.size + 1 < W.heap.size := by omega
  have hl2 : w.heap.size + 2 < W.heap.size := by omega
  have hBd : Below W.heap.size W W.drew := (Below.refl _ _).drew
  have HD1 : Hid (Dz N S T w W.drew b d w.heap.size P P 8 n t m (.slice ea el ec) (.slice ba bl bc)) := HD.out.below hBd
  have C1 := Restore_any HD1.out.bw.l HD1.out.bw.hN n t
  have HC2 : Hid (∀ V T', Rg N T' V d P → N ≤ V.heap.size → _) := fun V T' hr hn => RRestore_any hr n t
  generalize (if rsY P n t then (0 : Int) else 1) = an at *
  generalize rsP P n t = P1 at *
  have HC1 : Hid (Calls _ _ _ _ _) := C1
  clear C1 h HD0 hBd
  go_enter Try.func14, Try.ntmps14
  go_wp2_with fail
  rw [HW.out]
  go_region_held3 (fun V => V.cell? ⟨w.heap.size, 0, none⟩ = some (.pointer (some ⟨b, 0, none⟩)) ∧ V.cell? ⟨w.heap.size + 1, 0, none⟩ = some (.pointer (some ⟨d, 0, none⟩)) ∧ V.cell? ⟨w.heap.size + 2, 1, none⟩ = some (.int .i64 n) ∧ V.cell? ⟨w.heap.size + 2, 2, none⟩ = some (.int .i64 t)) (go_keep)
    (first
            | (go_at_call 35; refine HC1.out.mono ?_; rintro r w1 ⟨rfl, t1⟩; have HD2 : Hid (Dz N _ T w w1 b d w.heap.size P1 P 8 n t m (.slice ea el ec) (.slice ba bl bc)) := HD1.out.one (t1); obtain ⟨⟨y0, y1⟩, -, y3, y4, -, -, -⟩ := HD2.out.cells; have C2 := HC2.out w1 T HD2.out.bw.r HD2.out.bw.hN; have HC3 : Hid (Calls _ _ _ _ _) := C2; have z1 := HD2.out.hX; have z2 : w.heap.size < w1.heap.size := Nat.lt_of_lt_of_le (Nat.lt_add_of_pos_right (by decide)) z1; clear t1 C2)
            | (go_at_call 55; refine HC3.out.mono ?_; rintro r w2 ⟨rfl, t2⟩; have HD3 : Hid (Dz N _ _ w w2 b d w.heap.size P1 P1 8 n t m (.slice ea el ec) (.slice ba bl bc)) := HD2.out.two (t2.th HD2.out.bw.hN); obtain ⟨⟨x0, x1⟩, -, x3, x4, -, -, -⟩ := HD3.out.cells; have z3 := HD3.out.hX; clear t2)
            | (go_at_call 13; refine (num_any _ _).mono ?_; rintro r wz ⟨rfl, hz⟩; subst wz)
            | fail)
  all_goals
    go_wp2
    go_ret
    exact HD3.out.dn (by simp)
end Go.Proofs.Yteekpfgjpdopmaa
namespace Go.Proofs.Yteekpfgjpdopmaa
open Go.RowKit
set_option linter.unusedVariables false

set_option maxRecDepth 100000 in
set_option maxHeartbeats 8000000 in
theorem does9_any {N : Nat} {S T : Nat → Prop} {w : World} {b d : Nat} {P : PL} (h : Bw N S T w b d P P) (n t m : Int) (ea : Option Addr) (el ec : Nat) (ba : Option Addr) (bl bc : Nat) (k : Int) (hn : n ≤ 9223372036854775807) (h0 : ¬ k = 0) (h1 : ¬ k = 1) (h2 : ¬ k = 2) (h3 : ¬ k = 3) (h4 : ¬ k = 4) (h5 : ¬ k = 5) (h6 : ¬ k = 6) (h7 : ¬ k = 7) (h8 : ¬ k = 8) :
    Calls Try.prog 14 #[.pointer (some ⟨b, 0, none⟩), .pointer (some ⟨d, 0, none⟩), .agg #[.int .i64 k, .int .i64 n, .int .i64 t, .int .i64 m, .slice ea el ec, .slice ba bl bc]] w fun e w' => Dn8 N w b d e w' := by
  obtain ⟨W, HW⟩ : ∃ W, Hid ((((w.alloc (.cells #[.pointer (some ⟨b, 0, none⟩)] 25)).alloc (.cells #[.pointer (some ⟨d, 0, none⟩)] 29)).alloc (.cells #[.int .i64 k, .int .i64 n, .int .i64 t, .int .i64 m, .slice ea el ec, .slice ba bl bc] 37)) = W) := ⟨_, rfl⟩
  have HD0 := Dz.start h k n t m (.slice ea el ec) (.slice ba bl bc)
  rw [HW.out] at HD0
  have HD : Hid (Dz N S T w W b d w.heap.size P P k n t m (.slice ea el ec) (.slice ba bl bc)) := HD0
  obtain ⟨⟨c0, c1⟩, c2, c3, c4, c5, c6, c7⟩ := HD0.cells
  have hW3 : w.heap.size + 3 ≤ W.heap.size := HD0.hX
  have hl0 : w.heap.size < W.heap.size := by omega
  have hl1 : w.heap.size + 1 < W.heap.size := by omega
  have hl2 : w.heap.size + 2 < W.heap.size := by omega
  have g0 : (k == 0) = false := by simpa using h0
  have g1 : (k == 1) = false := by simpa using h1
  have g2 : (k == 2) = false := by simpa using h2
  have g3 : (k == 3) = false := by simpa using h3
  have g4 : (k == 4) = false := by simpa using h4
  have g5 : (k == 5) = false := by simpa using h5
  have g6 : (k == 6) = false := by simpa using h6
  have g7 : (k == 7) = false := by simpa using h7
  have g8 : (k == 8) = false := by simpa using h8
  clear h0 h1 h2 h3 h4 h5 h6 h7 h8
  have HD1 : Hid (Dz N S T w W b d w.heap.size P P k n t m (.slice ea el ec) (.slice ba bl bc)) := HD0
  have hel : (enL P n m).length ≤ 10000 := enL_len h.l.ok n m
  have HST : Hid ((∀ i, S i → i < W.heap.size) ∧ (∀ i, T i → i < W.heap.size) ∧ N ≤ W.heap.size) := ⟨HD0.bw.l.inn, HD0.bw.r.inn, HD0.bw.hN⟩
  have HC1 : Hid (Calls _ _ _ _ _) := Term_any HD0.bw.l n
  have HA2 : Hid (∀ V, Dz N S T w V b d w.heap.size P P k n t m (.slice ea el ec) (.slice ba bl bc) → Calls Try.prog 57 #[.pointer (some ⟨d, 0, none⟩), .int .i64 n] V fun e w' => e = .returned (.tuple #[.int .i64 (P.tt n), .int .i64 (P.er n : Int)]) ∧ Below V.heap.size V w') := fun V hV => RAt_any hV.bw.r n
  have HA3 : Hid (∀ V, Dz N S T w V b d w.heap.size P P k n t m (.slice ea el ec) (.slice ba bl bc) → Calls Try.prog 27 #[.pointer (some ⟨b, 0, none⟩), .int .i64 n, .int .i64 m] V fun e w' => ∃ v fs, e = .returned (.tuple #[v, .int .i64 (enE P n : Int)]) ∧ EntsOw V.heap.size w' v fs ∧ fs.map Ent.says = enL P n m ∧ Below V.heap.size V w') := fun V hV => Entries_any hV.bw.l n m
  have HA4 : Hid (∀ V, Dz N S T w V b d w.heap.size P P k n t m (.slice ea el ec) (.slice ba bl bc) → Calls Try.prog 58 #[.pointer (some ⟨d, 0, none⟩), .int .i64 n, .int .i64 m] V fun e w' => ∃ v fs, e = .returned (.tuple #[v, .int .i64 (enE P n : Int)]) ∧ EntsOw V.heap.size w' v fs ∧ fs.map Ent.says = enL P n m ∧ Below V.heap.size V w') := fun V hV => REntries_any hV.bw.r n m hn
  generalize P.tt n = ttn at *
  generalize P.er n = ern at *
  generalize enE P n = enn at *
  generalize enL P n m = LL at *
  clear h HD0
  go_enter Try.func14, Try.ntmps14
  go_wp2_with fail
  rw [HW.out]
  refine HC1.out.mono ?_
  rintro r w1 ⟨rfl, hB1⟩
  have HD2 : Hid (Dz N S T w w1 b d w.heap.size P P k n t m (.slice ea el ec) (.slice ba bl bc)) := HD1.out.below hB1
  have hz1 := hB1.size
  obtain ⟨⟨y0, y1⟩, y2, y3, y4, y5, y6, y7⟩ := HD2.out.cells
  clear hB1 HC1 c0 c1 c2 c3 c4 c5 c6 c7
  go_wp2_with fail
  refine (HA2.out _ HD2.out).mono ?_
  rintro r w2 ⟨rfl, hB2⟩
  have HD3 : Hid (Dz N S T w w2 b d w.heap.size P P k n t m (.slice ea el ec) (.slice ba bl bc)) := HD2.out.below hB2
  have hz2 := Nat.le_trans hz1 hB2.size
  obtain ⟨⟨c0, c1⟩, c2, c3, c4, c5, c6, c7⟩ := HD3.out.cells
  clear hB2 HA2 HD2 y0 y1 y2 y3 y4 y5 y6 y7
  go_wp2_with fail
  refine (HA3.out _ HD3.out).mono ?_
  rintro r w3 ⟨v1, f1, rfl, hE1, hs1, hB3⟩
  obtain ⟨a1, cc1, rfl, -, -⟩ := hE1.shape
  have HD4 : Hid (Dz N S T w w3 b d w.heap.size P P k n t m (.slice ea el ec) (.slice ba bl bc)) := HD3.out.below hB3
  have HE1 : Hid (EntsOw W.heap.size w3 (.slice a1 f1.length cc1) f1) := hE1.base hz2
  have HS1 : Hid (f1.map Ent.says = LL) := hs1
  have hz3 := Nat.le_trans hz2 hB3.size
  obtain ⟨⟨y0, y1⟩, y2, y3, y4, y5, y6, y7⟩ := HD4.out.cells
  clear hB3 HA3 HD3 hE1 hs1 c0 c1 c2 c3 c4 c5 c6 c7
  go_wp2_with fail
  refine (HA4.out _ HD4.out).mono ?_
  rintro r w4 ⟨v2, f2, rfl, hE2, hs2, hB4⟩
  obtain ⟨a2, cc2, rfl, -, -⟩ := hE2.shape
  have HD5 : Hid (Dz N S T w w4 b d w.heap.size P P k n t m (.slice ea el ec) (.slice ba bl bc)) := HD4.out.below hB4
  have HE2 : Hid (EntsOw W.heap.size w4 (.slice a1 f1.length cc1) f1) := HE1.out.below hB4
  have hfl : f1.length ≤ 10000 := by have := congrArg List.length HS1.out; simp at this; omega
  have C3 := sameEntries_any a1 a2 cc1 cc2 f1 f2 w4.heap.size w4 HE2.out.at hE2.at (Nat.le_refl _) (by omega)
  rw [HS1.out, hs2, decide_eq_true rfl] at C3
  have HC4 : Hid (Calls _ _ _ _ _) := C3
  clear C3 hE2 hs2 HA4 HE1 HD4 y0 y1 y2 y3 y4 y5 y6 y7 hz1 hz2 hz3 hB4
  go_wp2_with fail
  refine HC4.out.mono ?_
  rintro r w5 ⟨rfl, hB5⟩
  have HD6 : Hid (Dz N S T w w5 b d w.heap.size P P k n t m (.slice ea el ec) (.slice ba bl bc)) := HD5.out.below hB5
  have HE3 : Hid (EntsOw W.heap.size w5 (.slice a1 f1.length cc1) f1) := HE2.out.below hB5
  have C4 := over_any HE3.out.ov (by omega)
  have HC5 : Hid (Calls _ _ _ _ _) := C4
  clear C4 hB5 HC4 HE2 HD5 hfl
  go_wp2_with fail
  refine HC5.out.mono ?_
  rintro r w7 ⟨rfl, hO⟩
  have HD7 : Hid (Dz N S T w w7 b d w.heap.size P P k n t m (.slice ea el ec) (.slice ba bl bc)) := HD6.out.off hO (fun i hi hs => by have := (HE3.out.ov.lt hi).1; have := HST.out.1 i hs; omega) (fun i hi hs => by have := (HE3.out.ov.lt hi).1; have := HST.out.2.1 i hs; omega) (fun i hi => by have := (HE3.out.ov.lt hi).1; omega) (fun i hi => by have := (HE3.out.ov.lt hi).1; have := HST.out.2.2; omega)
  obtain ⟨⟨y0, y1⟩, y2, y3, y4, y5, y6, y7⟩ := HD7.out.cells
  have HQ1 : Hid (∀ V, Below w7.heap.size w7 V → Calls Try.prog 59 #[.pointer (some ⟨b, 0, none⟩), .int .i64 n, .int .i64 t] V fun e w' => e = .returned (.bool (P.has n t)) ∧ Below V.heap.size V w') := fun V hV => Has_any (HD7.out.below hV).bw.l n t
  have HQ2 : Hid (∀ V, Below w7.heap.size w7 V → Calls Try.prog 60 #[.pointer (some ⟨d, 0, none⟩), .int .i64 n, .int .i64 t] V fun e w' => e = .returned (.bool (P.has n t)) ∧ Below V.heap.size V w') := fun V hV => RHas_any (HD7.out.below hV).bw.r n t
  have HQ3 : Hid (∀ V, Below w7.heap.size w7 V → Calls Try.prog 61 #[.pointer (some ⟨b, 0, none⟩), .int .i64 n, .int .i64 t] V fun e w' => e = .returned (.bool (P.newer n t)) ∧ Below V.heap.size V w') := fun V hV => Newer_any (HD7.out.below hV).bw.l n t
  have HQ4 : Hid (∀ V, Below w7.heap.size w7 V → Calls Try.prog 62 #[.pointer (some ⟨d, 0, none⟩), .int .i64 n, .int .i64 t] V fun e w' => e = .returned (.bool (P.newer n t)) ∧ Below V.heap.size V w') := fun V hV => RNewer_any (HD7.out.below hV).bw.r n t
  have HQ5 : Hid (∀ V, Below w7.heap.size w7 V → Calls Try.prog 40 #[.pointer (some ⟨b, 0, none⟩), .int .i64 n, .int .i64 t] V fun e w' => e = .returned (.int .i64 (hint P n t)) ∧ Below V.heap.size V w') := fun V hV => Hint_any (HD7.out.below hV).bw.l n t
  have HQ6 : Hid (∀ V, Below w7.heap.size w7 V → Calls Try.prog 63 #[.pointer (some ⟨d, 0, none⟩), .int .i64 n, .int .i64 t] V fun e w' => e = .returned (.int .i64 (hint P n t)) ∧ Below V.heap.size V w') := fun V hV => RHint_any (HD7.out.below hV).bw.r n t
  generalize P.has n t = hs at *
  generalize P.newer n t = nw at *
  generalize hint P n t = hi at *
  have hl7 : w.heap.size + 3 ≤ w7.heap.size := HD7.out.hX
  clear hO HC5 HE3 HD6
  go_wp2_with fail
  refine wp_region_held_drew (S := fun V => V.cell? ⟨w.heap.size, 0, none⟩ = some (.pointer (some ⟨b, 0, none⟩)) ∧ V.cell? ⟨w.heap.size + 1, 0, none⟩ = some (.pointer (some ⟨d, 0, none⟩)) ∧ V.cell? ⟨w.heap.size + 2, 1, none⟩ = some (.int .i64 n) ∧ V.cell? ⟨w.heap.size + 2, 2, none⟩ = some (.int .i64 t)) (by kernel_rfl) ⟨y0, y1, y3, y4⟩ (fun hHeld => ?_)
  have HV0 : Hid (Below w7.heap.size w7 w7.drew) := (Below.refl _ _).drew
  refine wpAnyH_take (i := 0) (oi := { dst := some 265, op := Op.load 25 (Operand.tmp 3), type := 25, pos := "law.go:121", after := #[], guard := none }) (v := ?v0q) rfl (by kernel_rfl) (by kernel_rfl) (by kernel_rfl) (fun _ _ _ h => h) (Or.inl ⟨by rfl, ?h0q⟩) hHeld ?r0q
  case h0q => intro w hSw; (try dsimp only at hSw); go_simp; try with_reducible rfl
  try simp only [Act.put, List.setIfInBounds_toArray, List.set_cons_zero, List.set_cons_succ]
  refine wpAnyH_take (i := 1) (oi := { dst := some 266, op := Op.fieldAddr 37 (Operand.tmp 5) 1, type := 0, pos := "law.go:121", after := #[], guard := none }) (v := ?v1q) rfl (by kernel_rfl) (by kernel_rfl) (by kernel_rfl) (fun _ _ _ h => h) (Or.inl ⟨by rfl, ?h1q⟩) hHeld ?r1q
  case h1q => intro w hSw; (try dsimp only at hSw); go_simp; try with_reducible rfl
  try simp only [Act.put, List.setIfInBounds_toArray, List.set_cons_zero, List.set_cons_succ]
  refine wpAnyH_take (i := 2) (oi := { dst := some 267, op := Op.load 3 (Operand.tmp 266), type := 3, pos := "law.go:121", after := #[{ on := 1, ground := Ground.data }], guard := none }) (v := ?v2q) rfl (by kernel_rfl) (by kernel_rfl) (by kernel_rfl) (fun _ _ _ h => h) (Or.inl ⟨by rfl, ?h2q⟩) hHeld ?r2q
  case h2q => intro w hSw; (try dsimp only at hSw); go_simp; try with_reducible rfl
  try simp only [Act.put, List.setIfInBounds_toArray, List.set_cons_zero, List.set_cons_succ]
  refine wpAnyH_take (i := 3) (oi := { dst := some 268, op := Op.fieldAddr 37 (Operand.tmp 5) 2, type := 0, pos := "law.go:121", after := #[], guard := none }) (v := ?v3q) rfl (by kernel_rfl) (by kernel_rfl) (by kernel_rfl) (fun _ _ _ h => h) (Or.inl ⟨by rfl, ?h3q⟩) hHeld ?r3q
  case h3q => intro w hSw; (try dsimp only at hSw); go_simp; try with_reducible rfl
  try simp only [Act.put, List.setIfInBounds_toArray, List.set_cons_zero, List.set_cons_succ]
  refine wpAnyH_take (i := 4) (oi := { dst := some 269, op := Op.load 3 (Operand.tmp 268), type := 3, pos := "law.go:121", after := #[{ on := 3, ground := Ground.data }], guard := none }) (v := ?v4q) rfl (by kernel_rfl) (by kernel_rfl) (by kernel_rfl) (fun _ _ _ h => h) (Or.inl ⟨by rfl, ?h4q⟩) hHeld ?r4q
  case h4q => intro w hSw; (try dsimp only at hSw); go_simp; try with_reducible rfl
  try simp only [Act.put, List.setIfInBounds_toArray, List.set_cons_zero, List.set_cons_succ]
  refine wpAnyH_take (i := 6) (oi := { dst := some 271, op := Op.load 29 (Operand.tmp 4), type := 29, pos := "law.go:121", after := #[], guard := none }) (v := ?v6q) rfl (by kernel_rfl) (by kernel_rfl) (by kernel_rfl) (fun _ _ _ h => h) (Or.inl ⟨by rfl, ?h6q⟩) hHeld ?r6q
  case h6q => intro w hSw; (try dsimp only at hSw); go_simp; try with_reducible rfl
  try simp only [Act.put, List.setIfInBounds_toArray, List.set_cons_zero, List.set_cons_succ]
  refine wpAnyH_take (i := 7) (oi := { dst := some 272, op := Op.fieldAddr 37 (Operand.tmp 5) 1, type := 0, pos := "law.go:121", after := #[], guard := none }) (v := ?v7q) rfl (by kernel_rfl) (by kernel_rfl) (by kernel_rfl) (fun _ _ _ h => h) (Or.inl ⟨by rfl, ?h7q⟩) hHeld ?r7q
  case h7q => intro w hSw; (try dsimp only at hSw); go_simp; try with_reducible rfl
  try simp only [Act.put, List.setIfInBounds_toArray, List.set_cons_zero, List.set_cons_succ]
  refine wpAnyH_take (i := 8) (oi := { dst := some 273, op := Op.load 3 (Operand.tmp 272), type := 3, pos := "law.go:121", after := #[{ on := 7, ground := Ground.data }], guard := none }) (v := ?v8q) rfl (by kernel_rfl) (by kernel_rfl) (by kernel_rfl) (fun _ _ _ h => h) (Or.inl ⟨by rfl, ?h8q⟩) hHeld ?r8q
  case h8q => intro w hSw; (try dsimp only at hSw); go_simp; try with_reducible rfl
  try simp only [Act.put, List.setIfInBounds_toArray, List.set_cons_zero, List.set_cons_succ]
  refine wpAnyH_take (i := 9) (oi := { dst := some 274, op := Op.fieldAddr 37 (Operand.tmp 5) 2, type := 0, pos := "law.go:121", after := #[], guard := none }) (v := ?v9q) rfl (by kernel_rfl) (by kernel_rfl) (by kernel_rfl) (fun _ _ _ h => h) (Or.inl ⟨by rfl, ?h9q⟩) hHeld ?r9q
  case h9q => intro w hSw; (try dsimp only at hSw); go_simp; try with_reducible rfl
  try simp only [Act.put, List.setIfInBounds_toArray, List.set_cons_zero, List.set_cons_succ]
  refine wpAnyH_take (i := 10) (oi := { dst := some 275, op := Op.load 3 (Operand.tmp 274), type := 3, pos := "law.go:121", after := #[{ on := 9, ground := Ground.data }], guard := none }) (v := ?v10q) rfl (by kernel_rfl) (by kernel_rfl) (by kernel_rfl) (fun _ _ _ h => h) (Or.inl ⟨by rfl, ?h10q⟩) hHeld ?r10q
  case h10q => intro w hSw; (try dsimp only at hSw); go_simp; try with_reducible rfl
  try simp only [Act.put, List.setIfInBounds_toArray, List.set_cons_zero, List.set_cons_succ]
  refine wpAnyH_ready (rs := [5]) (by kernel_rfl) (by simp) ?_
  refine AllReadyH.cons (o := { dst := some 270, op := Op.call { callee := Callee.value (Operand.func 59), args := #[Operand.tmp 265, Operand.tmp 267, Operand.tmp 269], argTypes := #[25, 3, 3] }, type := 4, pos := "law.go:121", after := #[{ on := 0, ground := Ground.data }, { on := 2, ground := Ground.data }, { on := 4, ground := Ground.data }], guard := none }) rfl (fun KK hK => ?_) AllReadyH.nil
  go_simp
  go_wp2_with (go_at_call 59; refine (HQ1.out _ HV0.out).mono ?_; rintro r x1 ⟨rfl, hB1⟩; have HV1 : Hid (Below w7.heap.size w7 x1) := HV0.out.trans (hB1.mono HV0.out.size); clear hB1)
  obtain ⟨⟨q0, q1⟩, -, q3, q4, -, -, -⟩ := (HD7.out.below HV1.out).cells
  refine hK.out _ _ ⟨q0, q1, q3, q4⟩ (fun hHeld => ?_)
  clear hK
  try simp only [Act.put, List.setIfInBounds_toArray, List.set_cons_zero, List.set_cons_succ]
  refine wpAnyH_ready (rs := [11]) (by kernel_rfl) (by simp) ?_
  refine AllReadyH.cons (o := { dst := some 276, op := Op.call { callee := Callee.value (Operand.func 60), args := #[Operand.tmp 271, Operand.tmp 273, Operand.tmp 275], argTypes := #[29, 3, 3] }, type := 4, pos := "law.go:121", after := #[{ on := 6, ground := Ground.data }, { on := 8, ground := Ground.data }, { on := 10, ground := Ground.data }, { on := 5, ground := Ground.chain }], guard := none }) rfl (fun KK hK => ?_) AllReadyH.nil
  go_simp
  go_wp2_with (go_at_call 60; refine (HQ2.out _ HV1.out).mono ?_; rintro r x2 ⟨rfl, hB2⟩; have HV2 : Hid (Below w7.heap.size w7 x2) := HV1.out.trans (hB2.mono HV1.out.size); clear hB2)
  obtain ⟨⟨q0, q1⟩, -, q3, q4, -, -, -⟩ := (HD7.out.below HV2.out).cells
  refine hK.out _ _ ⟨q0, q1, q3, q4⟩ (fun hHeld => ?_)
  clear hK
  try simp only [Act.put, List.setIfInBounds_toArray, List.set_cons_zero, List.set_cons_succ]
  refine wpAnyH_take (i := 12) (oi := { dst := some 277, op := Op.binOp BinOp.eql 4 (Operand.tmp 270) (Operand.tmp 276) 4, type := 4, pos := "law.go:121", after := #[{ on := 5, ground := Ground.data }, { on := 11, ground := Ground.data }], guard := none }) (v := ?v12q) rfl (by kernel_rfl) (by kernel_rfl) (by kernel_rfl) (fun _ _ _ h => h) (Or.inl ⟨by rfl, ?h12q⟩) hHeld ?r12q
  case h12q => intro w hSw; (try dsimp only at hSw); go_simp; try with_reducible rfl
  try simp only [Act.put, List.setIfInBounds_toArray, List.set_cons_zero, List.set_cons_succ]
  refine wpAnyH_take (i := 13) (oi := { dst := some 278, op := Op.move (Operand.tmp 277), type := 4, pos := "law.go:121", after := #[{ on := 12, ground := Ground.data }, { on := 11, ground := Ground.chain }], guard := none }) (v := ?v13q) rfl (by kernel_rfl) (by kernel_rfl) (by kernel_rfl) (fun _ _ _ h => h) (Or.inl ⟨by rfl, ?h13q⟩) hHeld ?r13q
  case h13q => intro w hSw; (try dsimp only at hSw); go_simp; try with_reducible rfl
  try simp only [Act.put, List.setIfInBounds_toArray, List.set_cons_zero, List.set_cons_succ]
  refine wpAnyH_take (i := 14) (oi := { dst := some 279, op := Op.load 25 (Operand.tmp 3), type := 25, pos := "law.go:121", after := #[{ on := 13, ground := Ground.guard }], guard := some (13, true) }) (v := ?v14q) rfl (by kernel_rfl) (by kernel_rfl) (by kernel_rfl) (fun _ _ _ h => h) (Or.inl ⟨by rfl, ?h14q⟩) hHeld ?r14q
  case h14q => intro w hSw; (try dsimp only at hSw); go_simp; try with_reducible rfl
  try simp only [Act.put, List.setIfInBounds_toArray, List.set_cons_zero, List.set_cons_succ]
  refine wpAnyH_take (i := 15) (oi := { dst := some 280, op := Op.fieldAddr 37 (Operand.tmp 5) 1, type := 0, pos := "law.go:121", after := #[{ on := 13, ground := Ground.guard }], guard := some (13, true) }) (v := ?v15q) rfl (by kernel_rfl) (by kernel_rfl) (by kernel_rfl) (fun _ _ _ h => h) (Or.inl ⟨by rfl, ?h15q⟩) hHeld ?r15q
  case h15q => intro w hSw; (try dsimp only at hSw); go_simp; try with_reducible rfl
  try simp only [Act.put, List.setIfInBounds_toArray, List.set_cons_zero, List.set_cons_succ]
  refine wpAnyH_take (i := 16) (oi := { dst := some 281, op := Op.load 3 (Operand.tmp 280), type := 3, pos := "law.go:121", after := #[{ on := 15, ground := Ground.data }, { on := 13, ground := Ground.guard }], guard := some (13, true) }) (v := ?v16q) rfl (by kernel_rfl) (by kernel_rfl) (by kernel_rfl) (fun _ _ _ h => h) (Or.inl ⟨by rfl, ?h16q⟩) hHeld ?r16q
  case h16q => intro w hSw; (try dsimp only at hSw); go_simp; try with_reducible rfl
  try simp only [Act.put, List.setIfInBounds_toArray, List.set_cons_zero, List.set_cons_succ]
  refine wpAnyH_take (i := 17) (oi := { dst := some 282, op := Op.fieldAddr 37 (Operand.tmp 5) 2, type := 0, pos := "law.go:121", after := #[{ on := 13, ground := Ground.guard }], guard := some (13, true) }) (v := ?v17q) rfl (by kernel_rfl) (by kernel_rfl) (by kernel_rfl) (fun _ _ _ h => h) (Or.inl ⟨by rfl, ?h17q⟩) hHeld ?r17q
  case h17q => intro w hSw; (try dsimp only at hSw); go_simp; try with_reducible rfl
  try simp only [Act.put, List.setIfInBounds_toArray, List.set_cons_zero, List.set_cons_succ]
  refine wpAnyH_take (i := 18) (oi := { dst := some 283, op := Op.load 3 (Operand.tmp 282), type := 3, pos := "law.go:121", after := #[{ on := 17, ground := Ground.data }, { on := 13, ground := Ground.guard }], guard := some (13, true) }) (v := ?v18q) rfl (by kernel_rfl) (by kernel_rfl) (by kernel_rfl) (fun _ _ _ h => h) (Or.inl ⟨by rfl, ?h18q⟩) hHeld ?r18q
  case h18q => intro w hSw; (try dsimp only at hSw); go_simp; try with_reducible rfl
  try simp only [Act.put, List.setIfInBounds_toArray, List.set_cons_zero, List.set_cons_succ]
  refine wpAnyH_take (i := 20) (oi := { dst := some 285, op := Op.load 29 (Operand.tmp 4), type := 29, pos := "law.go:121", after := #[{ on := 13, ground := Ground.guard }], guard := some (13, true) }) (v := ?v20q) rfl (by kernel_rfl) (by kernel_rfl) (by kernel_rfl) (fun _ _ _ h => h) (Or.inl ⟨by rfl, ?h20q⟩) hHeld ?r20q
  case h20q => intro w hSw; (try dsimp only at hSw); go_simp; try with_reducible rfl
  try simp only [Act.put, List.setIfInBounds_toArray, List.set_cons_zero, List.set_cons_succ]
  refine wpAnyH_take (i := 21) (oi := { dst := some 286, op := Op.fieldAddr 37 (Operand.tmp 5) 1, type := 0, pos := "law.go:121", after := #[{ on := 13, ground := Ground.guard }], guard := some (13, true) }) (v := ?v21q) rfl (by kernel_rfl) (by kernel_rfl) (by kernel_rfl) (fun _ _ _ h => h) (Or.inl ⟨by rfl, ?h21q⟩) hHeld ?r21q
  case h21q => intro w hSw; (try dsimp only at hSw); go_simp; try with_reducible rfl
  try simp only [Act.put, List.setIfInBounds_toArray, List.set_cons_zero, List.set_cons_succ]
  refine wpAnyH_take (i := 22) (oi := { dst := some 287, op := Op.load 3 (Operand.tmp 286), type := 3, pos := "law.go:121", after := #[{ on := 21, ground := Ground.data }, { on := 13, ground := Ground.guard }], guard := some (13, true) }) (v := ?v22q) rfl (by kernel_rfl) (by kernel_rfl) (by kernel_rfl) (fun _ _ _ h => h) (Or.inl ⟨by rfl, ?h22q⟩) hHeld ?r22q
  case h22q => intro w hSw; (try dsimp only at hSw); go_simp; try with_reducible rfl
  try simp only [Act.put, List.setIfInBounds_toArray, List.set_cons_zero, List.set_cons_succ]
  refine wpAnyH_take (i := 23) (oi := { dst := some 288, op := Op.fieldAddr 37 (Operand.tmp 5) 2, type := 0, pos := "law.go:121", after := #[{ on := 13, ground := Ground.guard }], guard := some (13, true) }) (v := ?v23q) rfl (by kernel_rfl) (by kernel_rfl) (by kernel_rfl) (fun _ _ _ h => h) (Or.inl ⟨by rfl, ?h23q⟩) hHeld ?r23q
  case h23q => intro w hSw; (try dsimp only at hSw); go_simp; try with_reducible rfl
  try simp only [Act.put, List.setIfInBounds_toArray, List.set_cons_zero, List.set_cons_succ]
  refine wpAnyH_take (i := 24) (oi := { dst := some 289, op := Op.load 3 (Operand.tmp 288), type := 3, pos := "law.go:121", after := #[{ on := 23, ground := Ground.data }, { on := 13, ground := Ground.guard }], guard := some (13, true) }) (v := ?v24q) rfl (by kernel_rfl) (by kernel_rfl) (by kernel_rfl) (fun _ _ _ h => h) (Or.inl ⟨by rfl, ?h24q⟩) hHeld ?r24q
  case h24q => intro w hSw; (try dsimp only at hSw); go_simp; try with_reducible rfl
  try simp only [Act.put, List.setIfInBounds_toArray, List.set_cons_zero, List.set_cons_succ]
  refine wpAnyH_ready (rs := [19]) (by kernel_rfl) (by simp) ?_
  refine AllReadyH.cons (o := { dst := some 284, op := Op.call { callee := Callee.value (Operand.func 61), args := #[Operand.tmp 279, Operand.tmp 281, Operand.tmp 283], argTypes := #[25, 3, 3] }, type := 4, pos := "law.go:121", after := #[{ on := 14, ground := Ground.data }, { on := 16, ground := Ground.data }, { on := 18, ground := Ground.data }, { on := 13, ground := Ground.chain }, { on := 13, ground := Ground.guard }], guard := some (13, true) }) rfl (fun KK hK => ?_) AllReadyH.nil
  go_simp
  go_wp2_with (go_at_call 61; refine (HQ3.out _ HV2.out).mono ?_; rintro r x3 ⟨rfl, hB3⟩; have HV3 : Hid (Below w7.heap.size w7 x3) := HV2.out.trans (hB3.mono HV2.out.size); clear hB3)
  obtain ⟨⟨q0, q1⟩, -, q3, q4, -, -, -⟩ := (HD7.out.below HV3.out).cells
  refine hK.out _ _ ⟨q0, q1, q3, q4⟩ (fun hHeld => ?_)
  clear hK
  try simp only [Act.put, List.setIfInBounds_toArray, List.set_cons_zero, List.set_cons_succ]
  refine wpAnyH_ready (rs := [25]) (by kernel_rfl) (by simp) ?_
  refine AllReadyH.cons (o := { dst := some 290, op := Op.call { callee := Callee.value (Operand.func 62), args := #[Operand.tmp 285, Operand.tmp 287, Operand.tmp 289], argTypes := #[29, 3, 3] }, type := 4, pos := "law.go:121", after := #[{ on := 20, ground := Ground.data }, { on := 22, ground := Ground.data }, { on := 24, ground := Ground.data }, { on := 19, ground := Ground.chain }, { on := 13, ground := Ground.guard }], guard := some (13, true) }) rfl (fun KK hK => ?_) AllReadyH.nil
  go_simp
  go_wp2_with (go_at_call 62; refine (HQ4.out _ HV3.out).mono ?_; rintro r x4 ⟨rfl, hB4⟩; have HV4 : Hid (Below w7.heap.size w7 x4) := HV3.out.trans (hB4.mono HV3.out.size); clear hB4)
  obtain ⟨⟨q0, q1⟩, -, q3, q4, -, -, -⟩ := (HD7.out.below HV4.out).cells
  refine hK.out _ _ ⟨q0, q1, q3, q4⟩ (fun hHeld => ?_)
  clear hK
  try simp only [Act.put, List.setIfInBounds_toArray, List.set_cons_zero, List.set_cons_succ]
  refine wpAnyH_take (i := 26) (oi := { dst := some 291, op := Op.binOp BinOp.eql 4 (Operand.tmp 284) (Operand.tmp 290) 4, type := 4, pos := "law.go:121", after := #[{ on := 19, ground := Ground.data }, { on := 25, ground := Ground.data }, { on := 13, ground := Ground.guard }], guard := some (13, true) }) (v := ?v26q) rfl (by kernel_rfl) (by kernel_rfl) (by kernel_rfl) (fun _ _ _ h => h) (Or.inl ⟨by rfl, ?h26q⟩) hHeld ?r26q
  case h26q => intro w hSw; (try dsimp only at hSw); go_simp; try with_reducible rfl
  try simp only [Act.put, List.setIfInBounds_toArray, List.set_cons_zero, List.set_cons_succ]
  refine wpAnyH_take (i := 27) (oi := { dst := some 292, op := Op.pick (Operand.tmp 278) (Operand.tmp 291) (Operand.const (Value.bool false)), type := 4, pos := "law.go:121", after := #[{ on := 13, ground := Ground.data }, { on := 26, ground := Ground.data }], guard := none }) (v := ?v27q) rfl (by kernel_rfl) (by kernel_rfl) (by kernel_rfl) (fun _ _ _ h => h) (Or.inl ⟨by rfl, ?h27q⟩) hHeld ?r27q
  case h27q => intro w hSw; (try dsimp only at hSw); go_simp; try with_reducible rfl
  try simp only [Act.put, List.setIfInBounds_toArray, List.set_cons_zero, List.set_cons_succ]
  refine wpAnyH_take (i := 28) (oi := { dst := some 293, op := Op.move (Operand.tmp 292), type := 4, pos := "law.go:121", after := #[{ on := 27, ground := Ground.data }, { on := 25, ground := Ground.chain }], guard := none }) (v := ?v28q) rfl (by kernel_rfl) (by kernel_rfl) (by kernel_rfl) (fun _ _ _ h => h) (Or.inl ⟨by rfl, ?h28q⟩) hHeld ?r28q
  case h28q => intro w hSw; (try dsimp only at hSw); go_simp; try with_reducible rfl
  try simp only [Act.put, List.setIfInBounds_toArray, List.set_cons_zero, List.set_cons_succ]
  refine wpAnyH_take (i := 29) (oi := { dst := some 294, op := Op.load 25 (Operand.tmp 3), type := 25, pos := "law.go:121", after := #[{ on := 28, ground := Ground.guard }], guard := some (28, true) }) (v := ?v29q) rfl (by kernel_rfl) (by kernel_rfl) (by kernel_rfl) (fun _ _ _ h => h) (Or.inl ⟨by rfl, ?h29q⟩) hHeld ?r29q
  case h29q => intro w hSw; (try dsimp only at hSw); go_simp; try with_reducible rfl
  try simp only [Act.put, List.setIfInBounds_toArray, List.set_cons_zero, List.set_cons_succ]
  refine wpAnyH_take (i := 30) (oi := { dst := some 295, op := Op.fieldAddr 37 (Operand.tmp 5) 1, type := 0, pos := "law.go:121", after := #[{ on := 28, ground := Ground.guard }], guard := some (28, true) }) (v := ?v30q) rfl (by kernel_rfl) (by kernel_rfl) (by kernel_rfl) (fun _ _ _ h => h) (Or.inl ⟨by rfl, ?h30q⟩) hHeld ?r30q
  case h30q => intro w hSw; (try dsimp only at hSw); go_simp; try with_reducible rfl
  try simp only [Act.put, List.setIfInBounds_toArray, List.set_cons_zero, List.set_cons_succ]
  refine wpAnyH_take (i := 31) (oi := { dst := some 296, op := Op.load 3 (Operand.tmp 295), type := 3, pos := "law.go:121", after := #[{ on := 30, ground := Ground.data }, { on := 28, ground := Ground.guard }], guard := some (28, true) }) (v := ?v31q) rfl (by kernel_rfl) (by kernel_rfl) (by kernel_rfl) (fun _ _ _ h => h) (Or.inl ⟨by rfl, ?h31q⟩) hHeld ?r31q
  case h31q => intro w hSw; (try dsimp only at hSw); go_simp; try with_reducible rfl
  try simp only [Act.put, List.setIfInBounds_toArray, List.set_cons_zero, List.set_cons_succ]
  refine wpAnyH_take (i := 32) (oi := { dst := some 297, op := Op.fieldAddr 37 (Operand.tmp 5) 2, type := 0, pos := "law.go:121", after := #[{ on := 28, ground := Ground.guard }], guard := some (28, true) }) (v := ?v32q) rfl (by kernel_rfl) (by kernel_rfl) (by kernel_rfl) (fun _ _ _ h => h) (Or.inl ⟨by rfl, ?h32q⟩) hHeld ?r32q
  case h32q => intro w hSw; (try dsimp only at hSw); go_simp; try with_reducible rfl
  try simp only [Act.put, List.setIfInBounds_toArray, List.set_cons_zero, List.set_cons_succ]
  refine wpAnyH_take (i := 33) (oi := { dst := some 298, op := Op.load 3 (Operand.tmp 297), type := 3, pos := "law.go:121", after := #[{ on := 32, ground := Ground.data }, { on := 28, ground := Ground.guard }], guard := some (28, true) }) (v := ?v33q) rfl (by kernel_rfl) (by kernel_rfl) (by kernel_rfl) (fun _ _ _ h => h) (Or.inl ⟨by rfl, ?h33q⟩) hHeld ?r33q
  case h33q => intro w hSw; (try dsimp only at hSw); go_simp; try with_reducible rfl
  try simp only [Act.put, List.setIfInBounds_toArray, List.set_cons_zero, List.set_cons_succ]
  refine wpAnyH_take (i := 35) (oi := { dst := some 300, op := Op.load 29 (Operand.tmp 4), type := 29, pos := "law.go:121", after := #[{ on := 28, ground := Ground.guard }], guard := some (28, true) }) (v := ?v35q) rfl (by kernel_rfl) (by kernel_rfl) (by kernel_rfl) (fun _ _ _ h => h) (Or.inl ⟨by rfl, ?h35q⟩) hHeld ?r35q
  case h35q => intro w hSw; (try dsimp only at hSw); go_simp; try with_reducible rfl
  try simp only [Act.put, List.setIfInBounds_toArray, List.set_cons_zero, List.set_cons_succ]
  refine wpAnyH_take (i := 36) (oi := { dst := some 301, op := Op.fieldAddr 37 (Operand.tmp 5) 1, type := 0, pos := "law.go:121", after := #[{ on := 28, ground := Ground.guard }], guard := some (28, true) }) (v := ?v36q) rfl (by kernel_rfl) (by kernel_rfl) (by kernel_rfl) (fun _ _ _ h => h) (Or.inl ⟨by rfl, ?h36q⟩) hHeld ?r36q
  case h36q => intro w hSw; (try dsimp only at hSw); go_simp; try with_reducible rfl
  try simp only [Act.put, List.setIfInBounds_toArray, List.set_cons_zero, List.set_cons_succ]
  refine wpAnyH_take (i := 37) (oi := { dst := some 302, op := Op.load 3 (Operand.tmp 301), type := 3, pos := "law.go:121", after := #[{ on := 36, ground := Ground.data }, { on := 28, ground := Ground.guard }], guard := some (28, true) }) (v := ?v37q) rfl (by kernel_rfl) (by kernel_rfl) (by kernel_rfl) (fun _ _ _ h => h) (Or.inl ⟨by rfl, ?h37q⟩) hHeld ?r37q
  case h37q => intro w hSw; (try dsimp only at hSw); go_simp; try with_reducible rfl
  try simp only [Act.put, List.setIfInBounds_toArray, List.set_cons_zero, List.set_cons_succ]
  refine wpAnyH_take (i := 38) (oi := { dst := some 303, op := Op.fieldAddr 37 (Operand.tmp 5) 2, type := 0, pos := "law.go:121", after := #[{ on := 28, ground := Ground.guard }], guard := some (28, true) }) (v := ?v38q) rfl (by kernel_rfl) (by kernel_rfl) (by kernel_rfl) (fun _ _ _ h => h) (Or.inl ⟨by rfl, ?h38q⟩) hHeld ?r38q
  case h38q => intro w hSw; (try dsimp only at hSw); go_simp; try with_reducible rfl
  try simp only [Act.put, List.setIfInBounds_toArray, List.set_cons_zero, List.set_cons_succ]
  refine wpAnyH_take (i := 39) (oi := { dst := some 304, op := Op.load 3 (Operand.tmp 303), type := 3, pos := "law.go:121", after := #[{ on := 38, ground := Ground.data }, { on := 28, ground := Ground.guard }], guard := some (28, true) }) (v := ?v39q) rfl (by kernel_rfl) (by kernel_rfl) (by kernel_rfl) (fun _ _ _ h => h) (Or.inl ⟨by rfl, ?h39q⟩) hHeld ?r39q
  case h39q => intro w hSw; (try dsimp only at hSw); go_simp; try with_reducible rfl
  try simp only [Act.put, List.setIfInBounds_toArray, List.set_cons_zero, List.set_cons_succ]
  refine wpAnyH_ready (rs := [34]) (by kernel_rfl) (by simp) ?_
  refine AllReadyH.cons (o := { dst := some 299, op := Op.call { callee := Callee.value (Operand.func 40), args := #[Operand.tmp 294, Operand.tmp 296, Operand.tmp 298], argTypes := #[25, 3, 3] }, type := 3, pos := "law.go:121", after := #[{ on := 29, ground := Ground.data }, { on := 31, ground := Ground.data }, { on := 33, ground := Ground.data }, { on := 28, ground := Ground.chain }, { on := 28, ground := Ground.guard }], guard := some (28, true) }) rfl (fun KK hK => ?_) AllReadyH.nil
  go_simp
  go_wp2_with (go_at_call 40; refine (HQ5.out _ HV4.out).mono ?_; rintro r x5 ⟨rfl, hB5⟩; have HV5 : Hid (Below w7.heap.size w7 x5) := HV4.out.trans (hB5.mono HV4.out.size); clear hB5)
  obtain ⟨⟨q0, q1⟩, -, q3, q4, -, -, -⟩ := (HD7.out.below HV5.out).cells
  refine hK.out _ _ ⟨q0, q1, q3, q4⟩ (fun hHeld => ?_)
  clear hK
  try simp only [Act.put, List.setIfInBounds_toArray, List.set_cons_zero, List.set_cons_succ]
  refine wpAnyH_ready (rs := [40]) (by kernel_rfl) (by simp) ?_
  refine AllReadyH.cons (o := { dst := some 305, op := Op.call { callee := Callee.value (Operand.func 63), args := #[Operand.tmp 300, Operand.tmp 302, Operand.tmp 304], argTypes := #[29, 3, 3] }, type := 3, pos := "law.go:121", after := #[{ on := 35, ground := Ground.data }, { on := 37, ground := Ground.data }, { on := 39, ground := Ground.data }, { on := 34, ground := Ground.chain }, { on := 28, ground := Ground.guard }], guard := some (28, true) }) rfl (fun KK hK => ?_) AllReadyH.nil
  go_simp
  go_wp2_with (go_at_call 63; refine (HQ6.out _ HV5.out).mono ?_; rintro r x6 ⟨rfl, hB6⟩; have HV6 : Hid (Below w7.heap.size w7 x6) := HV5.out.trans (hB6.mono HV5.out.size); clear hB6)
  obtain ⟨⟨q0, q1⟩, -, q3, q4, -, -, -⟩ := (HD7.out.below HV6.out).cells
  refine hK.out _ _ ⟨q0, q1, q3, q4⟩ (fun hHeld => ?_)
  clear hK
  try simp only [Act.put, List.setIfInBounds_toArray, List.set_cons_zero, List.set_cons_succ]
  refine wpAnyH_take (i := 41) (oi := { dst := some 306, op := Op.binOp BinOp.eql 3 (Operand.tmp 299) (Operand.tmp 305) 3, type := 4, pos := "law.go:121", after := #[{ on := 34, ground := Ground.data }, { on := 40, ground := Ground.data }, { on := 28, ground := Ground.guard }], guard := some (28, true) }) (v := ?v41q) rfl (by kernel_rfl) (by kernel_rfl) (by kernel_rfl) (fun _ _ _ h => h) (Or.inl ⟨by rfl, ?h41q⟩) hHeld ?r41q
  case h41q => intro w hSw; (try dsimp only at hSw); go_simp; try with_reducible rfl
  try simp only [Act.put, List.setIfInBounds_toArray, List.set_cons_zero, List.set_cons_succ]
  refine wpAnyH_take (i := 42) (oi := { dst := some 307, op := Op.pick (Operand.tmp 293) (Operand.tmp 306) (Operand.const (Value.bool false)), type := 4, pos := "law.go:121", after := #[{ on := 28, ground := Ground.data }, { on := 41, ground := Ground.data }], guard := none }) (v := ?v42q) rfl (by kernel_rfl) (by kernel_rfl) (by kernel_rfl) (fun _ _ _ h => h) (Or.inl ⟨by rfl, ?h42q⟩) hHeld ?r42q
  case h42q => intro w hSw; (try dsimp only at hSw); go_simp; try with_reducible rfl
  try simp only [Act.put, List.setIfInBounds_toArray, List.set_cons_zero, List.set_cons_succ]
  refine wpAnyH_take (i := 43) (oi := { dst := some 33, op := Op.assign (Operand.tmp 307), type := 4, pos := "law.go:121", after := #[{ on := 42, ground := Ground.data }, { on := 40, ground := Ground.chain }, { on := 0, ground := Ground.phase }, { on := 1, ground := Ground.phase }, { on := 2, ground := Ground.phase }, { on := 3, ground := Ground.phase }, { on := 4, ground := Ground.phase }, { on := 5, ground := Ground.phase }, { on := 6, ground := Ground.phase }, { on := 7, ground := Ground.phase }, { on := 8, ground := Ground.phase }, { on := 9, ground := Ground.phase }, { on := 10, ground := Ground.phase }, { on := 11, ground := Ground.phase }, { on := 12, ground := Ground.phase }, { on := 13, ground := Ground.phase }, { on := 14, ground := Ground.phase }, { on := 15, ground := Ground.phase }, { on := 16, ground := Ground.phase }, { on := 17, ground := Ground.phase }, { on := 18, ground := Ground.phase }, { on := 19, ground := Ground.phase }, { on := 20, ground := Ground.phase }, { on := 21, ground := Ground.phase }, { on := 22, ground := Ground.phase }, { on := 23, ground := Ground.phase }, { on := 24, ground := Ground.phase }, { on := 25, ground := Ground.phase }, { on := 26, ground := Ground.phase }, { on := 27, ground := Ground.phase }, { on := 28, ground := Ground.phase }, { on := 29, ground := Ground.phase }, { on := 30, ground := Ground.phase }, { on := 31, ground := Ground.phase }, { on := 32, ground := Ground.phase }, { on := 33, ground := Ground.phase }, { on := 34, ground := Ground.phase }, { on := 35, ground := Ground.phase }, { on := 36, ground := Ground.phase }, { on := 37, ground := Ground.phase }, { on := 38, ground := Ground.phase }, { on := 39, ground := Ground.phase }, { on := 40, ground := Ground.phase }, { on := 41, ground := Ground.phase }, { on := 42, ground := Ground.phase }], guard := none }) (v := ?v43q) rfl (by kernel_rfl) (by kernel_rfl) (by kernel_rfl) (fun _ _ _ h => h) (Or.inl ⟨by rfl, ?h43q⟩) hHeld ?r43q
  case h43q => intro w hSw; (try dsimp only at hSw); go_simp; try with_reducible rfl
  try simp only [Act.put, List.setIfInBounds_toArray, List.set_cons_zero, List.set_cons_succ]
  refine wpAnyH_done (by kernel_rfl) ?_ _
  go_wp2_with fail
  refine (num_any _ _).mono ?_
  rintro r wz ⟨rfl, hz⟩
  subst wz
  go_wp2_with fail
  refine (num_any _ _).mono ?_
  rintro r wz ⟨rfl, hz⟩
  subst wz
  go_wp2
  go_ret
  exact (HD7.out.below HV6.out).dn (by simp)
end Go.Proofs.Yteekpfgjpdopmaa
