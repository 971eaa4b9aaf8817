/-
  A Save of both disks.
-/
import Derived.Test.YtadajbdmlmickaaGreatDoorDs
import Derived.Deep.RegionHeld3
import Derived.Deep.RegionLaw
import Derived.Deep.DeepCutAuto
namespace Go.Proofs.YtadajbdmlmickaaGreatDoor
open Go.RowKit Go.Shelf
set_option linter.unusedVariables false

set_option maxRecDepth 100000 in
set_option maxHeartbeats 8000000 in
theorem dsx_0 {N : Nat} {S1 S2 : Nat → Prop} {w0 w : World} {d B : Nat} {p : PD} (h : Bth N S1 S2 w0 w d B p) (n i t : Int) (sa : Option Addr) (sc : Nat) (m : List UInt8) (okd on : Int) (onm ot : List UInt8) (oa : Option Addr) (oc : Nat) (ob : List UInt8) (hv : ∀ V, Below N w0 V → Vars V) (hx : Sl N w (.slice sa m.length sc) m) (hml : m.length ≤ 140737488351232) :
    Calls Tryz.prog 11 #[.pointer (some ⟨d, 0, none⟩), .pointer (some ⟨B, 0, none⟩), .agg #[.int .i64 0, .int .i64 n, .int .i64 i, .int .i64 t, .slice sa m.length sc, .int .i64 okd, .int .i64 on, .string ⟨onm.toArray⟩, .string ⟨ot.toArray⟩, .slice oa ob.length oc]] w fun r w' => r = .returned (.bool true) ∧ ∃ S3 S4, Bth N S3 S4 w0 w' d B (saveP p i t m).2 := by
  obtain ⟨W0, hW0⟩ : ∃ W0, w.alloc (.cells #[.int .i64 0, .int .i64 n, .int .i64 i, .int .i64 t, .slice sa m.length sc, .int .i64 okd, .int .i64 on, .string ⟨onm.toArray⟩, .string ⟨ot.toArray⟩, .slice oa ob.length oc] 38) = W0 := ⟨_, rfl⟩
  have HW0 : Hid (_ = W0) := hW0
  have hB0 : Below w.heap.size w W0 := by rw [← hW0]; exact (Below.refl _ w).alloc (Nat.le_refl _) _
  have hz0 : w.heap.size < W0.heap.size := by rw [← hW0]; simp
  have hbx : W0.heap[w.heap.size]? = some (.cells #[.int .i64 0, .int .i64 n, .int .i64 i, .int .i64 t, .slice sa m.length sc, .int .i64 okd, .int .i64 on, .string ⟨onm.toArray⟩, .string ⟨ot.toArray⟩, .slice oa ob.length oc] 38 (0, 0)) := by rw [← hW0]; exact heap_alloc_new w _
  have HB : Hid (Bth N S1 S2 w0 W0 d B p) := h.below hB0
  have HB0 : Hid (Below w.heap.size w W0) := hB0
  have hS1 : ¬ S1 w.heap.size := fun hs => by have := h.dsk.inn _ hs; omega
  have hS2 : ¬ S2 w.heap.size := fun hs => by have := h.rds.inn _ hs; omega
  have HCE : Hid (∀ w' : World, w'.heap[w.heap.size]? = W0.heap[w.heap.size]? → w'.heap[w.heap.size]? = some (.cells #[.int .i64 0, .int .i64 n, .int .i64 i, .int .i64 t, .slice sa m.length sc, .int .i64 okd, .int .i64 on, .string ⟨onm.toArray⟩, .string ⟨ot.toArray⟩, .slice oa ob.length oc] 38 (0, 0))) := fun w' hw => hw.trans hbx
  have c0 : W0.cell? ⟨w.heap.size, 0, none⟩ = some (.int .i64 0) := by simp only [World.cell?, hbx]; rfl
  have c1 : W0.cell? ⟨w.heap.size, 1, none⟩ = some (.int .i64 n) := by simp only [World.cell?, hbx]; rfl
  have c2 : W0.cell? ⟨w.heap.size, 2, none⟩ = some (.int .i64 i) := by simp only [World.cell?, hbx]; rfl
  have c3 : W0.cell? ⟨w.heap.size, 3, none⟩ = some (.int .i64 t) := by simp only [World.cell?, hbx]; rfl
  have c4 : W0.cell? ⟨w.heap.size, 4, none⟩ = some (.slice sa m.length sc) := by simp only [World.cell?, hbx]; rfl
  have HN : Hid (N ≤ w.heap.size) := h.sz
  have HX : Hid (∀ W, Below N w W → Sl N W (.slice sa m.length sc) m) := fun W hB => hx.below hB
  have HBN : Hid (Below N w W0) := hB0.mono h.sz
  have HLE : Hid (∀ W, Below N w W → w.heap.size ≤ W.heap.size → Calls Tryz.prog 34 #[.slice sa m.length sc] W fun e w' => ∃ g cap, e = .returned (.slice (some ⟨g, 0, none⟩) m.length cap) ∧ Ow W.heap.size w' (.slice (some ⟨g, 0, none⟩) (m.length + 1) cap) (m ++ [201]) ∧ Below W.heap.size W w') := fun W hB hz => lent_anyX N sa sc m W (hx.below hB) (by have := HN.out; omega) hml
  obtain ⟨rc, -⟩ : (∀ (o : Obj) (j : Nat), (W0.alloc o).cell? ⟨w.heap.size, j, none⟩ = W0.cell? ⟨w.heap.size, j, none⟩) ∧ True := ⟨fun o j => ((Below.refl _ W0).alloc (Nat.le_refl _) o).cell (p := ⟨w.heap.size, j, none⟩) hz0, trivial⟩
  clear hW0 hB0 h hx
  go_enter Tryz.func11, Tryz.ntmps11
  go_upto_region 1 with fail
  rw [HW0.out]
  go_upto_region 3 with fail
  go_cut [7] (fun v wx => ∃ bb g cap, v = .pointer (some ⟨bb, 0, none⟩) ∧ Hid (wx.heap[bb]? = some (.cells #[.int .i64 i, .int .i64 t, .slice (some ⟨g, 0, none⟩) m.length cap] 34 (0, 0))) ∧ Hid (∃ M, W0.heap.size ≤ M ∧ Ow M wx (.slice (some ⟨g, 0, none⟩) (m.length + 1) cap) (m ++ [201])) ∧ Hid (Below W0.heap.size W0 wx) ∧ Hid (W0.heap.size ≤ bb))
  case first =>
    have HB1 : Hid (∀ o, Below N w (W0.alloc o)) := fun o => HBN.out.alloc (by have := HBN.out.size; have := HN.out; omega) o
    go_region_law (first
      | (go_simp; go_at_call 34; refine (HLE.out _ (by first | exact HBN.out.drew | exact (HB1.out _).drew) (by first | exact HB0.out.size | (simp; have := HB0.out.size; omega))).mono ?_; rintro r w3 ⟨g, cap, rfl, hO3, hB3⟩; have HO3 : Hid (∃ M, W0.heap.size ≤ M ∧ Ow M w3 (.slice (some ⟨g, 0, none⟩) (m.length + 1) cap) (m ++ [201])) := ⟨_, (by first | exact Nat.le_refl _ | (simp; done) | (simp; omega)), hO3⟩; have HB3 : Hid (Below W0.heap.size W0 w3) := (by first | exact ((Below.refl W0.heap.size W0).drew).trans hB3 | exact (((Below.refl W0.heap.size W0).alloc (Nat.le_refl _) _).drew).trans (hB3.mono (by simp))); (try (have hbz : w3.heap[W0.heap.size]? = some (.cells #[.int .i64 0, .int .i64 0, .slice none 0 0] 34 (0, 0)) := (hB3.block W0.heap.size (by simp)).trans (heap_alloc_new W0 _); obtain ⟨⟨z0, z1, z2⟩, y0, y1, y2⟩ := Cd.cells3 hbz; have HBZ : Hid (_ = _) := hbz; clear hbz)); have d2 := (HB3.out.cell (p := ⟨w.heap.size, 2, none⟩) hz0).trans c2; have d3 := (HB3.out.cell (p := ⟨w.heap.size, 3, none⟩) hz0).trans c3; have d4 := (HB3.out.cell (p := ⟨w.heap.size, 4, none⟩) hz0).trans c4; have rc3 : ∀ (o : Obj) (j : Nat), (w3.alloc o).cell? ⟨w.heap.size, j, none⟩ = w3.cell? ⟨w.heap.size, j, none⟩ := (fun o j => ((Below.refl _ w3).alloc (Nat.le_refl _) o).cell (p := ⟨w.heap.size, j, none⟩) (Nat.lt_of_lt_of_le hz0 HB3.out.size)); clear hO3 hB3)
      | fail)
    all_goals go_wp2
    all_goals go_meet
    all_goals first
      | exact ⟨_, g, cap, rfl, (heap_alloc_new w3 _ : _ = _), (by obtain ⟨M, h1, h2⟩ := HO3.out; exact ⟨M, h1, h2.alloc _⟩), HB3.out.alloc HB3.out.size _, HB3.out.size⟩
      | exact ⟨_, g, cap, rfl, Cd.set3 HBZ.out _ _ _, (by obtain ⟨M, h1, h2⟩ := HO3.out; exact ⟨M, h1, h2.kept (Cd.grownset3 w3 W0.heap.size _ _ _) (.inr (h2.not_at HBZ.out (by decide)))⟩), Cd.belset3 HB3.out (Nat.le_refl _) _ _ _, Nat.le_refl _⟩
  case rest =>
  obtain ⟨bb, g, cap, hu, HBB, HOO, HBC, hbb⟩ := hcut
  subst hu
  generalize wc = W3 at *
  have HSX : Hid (∃ M, W0.heap.size ≤ M ∧ Ow M W3 (.slice (some ⟨g, 0, none⟩) (m.length + 1) cap) (m ++ [201])) := HOO
  have hgB : W0.heap.size ≤ g ∧ g < W3.heap.size := by
    obtain ⟨M, h1, h2⟩ := HOO.out
    have := World.ownsRow.lt h2 g rfl
    omega
  have HGB : Hid (W0.heap.size ≤ g ∧ g < W3.heap.size) := hgB
  have hbB : bb < W3.heap.size := (Array.getElem?_eq_some_iff.1 HBB.out).1
  have hs1 : ∀ j, W0.heap.size ≤ j → ¬ S1 j := fun j hj hs => by have := HB.out.dsk.inn j hs; omega
  have hs2 : ∀ j, W0.heap.size ≤ j → ¬ S2 j := fun j hj hs => by have := HB.out.rds.inn j hs; omega
  have HS1 : Hid (∀ j, W0.heap.size ≤ j → ¬ S1 j) := hs1
  have HS2 : Hid (∀ j, W0.heap.size ≤ j → ¬ S2 j) := hs2
  have HBT : Hid (Bth N S1 S2 w0 W3 d B p) := HB.out.below HBC.out
  have hsl : Sl W3.heap.size W3 (.slice (some ⟨g, 0, none⟩) m.length cap) m := by
    obtain ⟨M, h1, h2⟩ := HOO.out
    have e : m.length + 1 = (m ++ [(201 : UInt8)]).length := by simp
    rw [e] at h2
    have h9 := (h2.sl (Nat.le_refl _)).front m.length (by simp)
    have h8 : (m ++ [(201 : UInt8)]).take m.length = m := by simp
    rw [h8] at h9
    exact h9
  have hca := save_any HBT.out.dsk HBT.out.sz (fun V hV => hv V (HBT.out.bel.trans hV)) i t m (some ⟨g, 0, none⟩) cap W3.heap.size hsl (Nat.le_refl _)
  obtain ⟨⟨k0, k1, k2⟩, -⟩ := Cd.cells3 HBB.out
  have HRS : Hid (∀ W, RDs S2 W B p → Below N w W → Calls Tryz.prog 36 #[.pointer (some ⟨B, 0, none⟩), .agg #[.int .i64 i, .int .i64 t, .slice sa m.length sc]] W fun r w' => RDone S2 W B (saveP p i t m) r w') := fun W hR hB => refSave_any hR HB.out.good i t m sa sc N (HX.out W hB) (by have := hB.size; have := HN.out; omega)
  have HGS : Hid (Good (saveP p i t m).2) := HB.out.good.save i t m
  have HC4 : Hid (∀ V : World, V.heap[w.heap.size]? = W0.heap[w.heap.size]? → V.cell? ⟨w.heap.size, 2, none⟩ = some (.int .i64 i) ∧ V.cell? ⟨w.heap.size, 3, none⟩ = some (.int .i64 t) ∧ V.cell? ⟨w.heap.size, 4, none⟩ = some (.slice sa m.length sc)) := fun V hV => by
    have h9 := HCE.out V hV
    refine ⟨?_, ?_, ?_⟩ <;> (simp only [World.cell?, h9]; rfl)
  generalize hX9 : saveP p i t m = X at *
  obtain ⟨xe, q⟩ := X
  have HXE : Hid (saveP p i t m = (xe, q)) := hX9
  clear hX9
  simp only at hca HRS HGS
  clear c0 c1 c2 c3 c4 rc HLE hs1 hs2 hsl HOO
  have HM5 : Hid (∀ w5, Then N S1 W3 w5 d q → Calls Tryz.prog 35 #[.slice (some ⟨g, 0, none⟩) m.length cap, .slice sa m.length sc] w5 fun e w' => e = .returned (.bool true) ∧ Below w5.heap.size w5 w') := fun w5 hT => by
    obtain ⟨M, h1, h2⟩ := HSX.out
    have hB5 : Below N w w5 := (HBN.out.trans (HBC.out.mono (by have := HBN.out.size; have := HN.out; omega))).trans hT.bel
    exact kept_anyX M N g cap sa sc m w5 (h2.out hT.out (fun g' hg' hs => by cases hg'; exact HS1.out _ HGB.out.1 hs)) (HX.out w5 hB5) (by have := hB5.size; have := HN.out; omega) hml
  have HE5 : Hid (∀ w5, Then N S1 W3 w5 d q → w5.heap[w.heap.size]? = W0.heap[w.heap.size]? ∧ w5.cell? ⟨bb, 2, none⟩ = some (.slice (some ⟨g, 0, none⟩) m.length cap) ∧ w.heap.size < w5.heap.size) := fun w5 hT => by
    have h3 : w.heap.size < W3.heap.size := by have := HBC.out.size; omega
    have h9 := (hT.out.block bb hbB (HS1.out bb hbb)).trans HBB.out
    refine ⟨(hT.out.block w.heap.size h3 hS1).trans (HBC.out.block _ hz0), by simp only [World.cell?, h9]; rfl, by have := hT.out.size; omega⟩
  have HFN : Hid (∀ w5 w6 w9, Then N S1 W3 w5 d q → Below w5.heap.size w5 w6 → Out S2 w6.drew w9 → RDs (grew S2 w6.drew w9) w9 B q → ∃ S3 S4, Bth N S3 S4 w0 w9 d B q) := fun w5 w6 w9 hT hB hO hR =>
    ⟨_, _, HBT.out.cxd (X := fun _ => False) hT (Out.of_below hB.drew) (fun _ hf => hf.elim) (fun _ hf => hf.elim) (fun _ hf => hf.elim) hO hR HGS.out⟩
  have HR6 : Hid (∀ w5 w6, Then N S1 W3 w5 d q → Below w5.heap.size w5 w6 → Calls Tryz.prog 36 #[.pointer (some ⟨B, 0, none⟩), .agg #[.int .i64 i, .int .i64 t, .slice sa m.length sc]] w6.drew fun r w' => RDone S2 w6.drew B (xe, q) r w') := fun w5 w6 hT hB => by
    have hB5 : Below N w w5 := (HBN.out.trans (HBC.out.mono (by have := HBN.out.size; have := HN.out; omega))).trans hT.bel
    exact HRS.out _ ((HBT.out.rds.out hT.out (fun j hj hk => HBT.out.ap j hk hj)).out (X := fun _ => False) (Out.of_below hB.drew) (fun _ _ hf => hf)) (hB5.trans (hB.drew.mono (by have := hB5.size; have := HN.out; omega)))
  go_upto_region 6 with (first
    | (go_at_call 24; refine hca.mono ?_; rintro r w5 ⟨rfl, hT5⟩; have HT5 : Hid (Then N S1 W3 w5 d q) := hT5; obtain ⟨he5, hk5, hz5⟩ := HE5.out w5 hT5; obtain ⟨e2, e3, e4⟩ := HC4.out w5 he5; have HH5 : Hid (w5.heap[w.heap.size]? = W0.heap[w.heap.size]?) := he5; have hka := HM5.out w5 hT5; clear hT5 he5)
    | (go_at_call 35; refine hka.mono ?_; rintro r w6 ⟨rfl, hB6⟩; have HB6 : Hid (Below w5.heap.size w5 w6) := hB6; obtain ⟨f2, f3, f4⟩ := HC4.out w6 ((hB6.block _ hz5).trans HH5.out); have hda := HR6.out w5 w6 HT5.out hB6; clear hB6))
  clear k0 k1 k2 hk5 e2 e3 e4 HE5 HM5 HR6 HC4 HCE HX HRS
  go_region_held3 (fun w' => w'.cell? ⟨w.heap.size, 2, none⟩ = some (.int .i64 i) ∧ w'.cell? ⟨w.heap.size, 3, none⟩ = some (.int .i64 t) ∧ w'.cell? ⟨w.heap.size, 4, none⟩ = some (.slice sa m.length sc)) (go_keep)
    (first
      | (go_at_call 18; refine (num_any _ _).mono ?_; rintro e wz ⟨rfl, hz⟩; subst wz)
      | (go_at_call 36; refine hda.mono ?_; rintro e w9 ⟨rfl, hO9, hR9⟩; have HB9 : Hid (∃ S3 S4, Bth N S3 S4 w0 w9 d B q) := HFN.out _ _ _ HT5.out HB6.out hO9 hR9; have hzz : w.heap.size < w6.drew.heap.size := Nat.lt_of_lt_of_le hz5 HB6.out.size; have g2 := (World.cell?_of_block (a := ⟨w.heap.size, 2, none⟩) (hO9.block _ hzz hS2)).trans f2; have g3 := (World.cell?_of_block (a := ⟨w.heap.size, 3, none⟩) (hO9.block _ hzz hS2)).trans f3; have g4 := (World.cell?_of_block (a := ⟨w.heap.size, 4, none⟩) (hO9.block _ hzz hS2)).trans f4)
      | fail)
  all_goals (go_wp2; go_ret; exact ⟨by simp, by rw [HXE.out]; exact HB9.out⟩)
end Go.Proofs.YtadajbdmlmickaaGreatDoor
