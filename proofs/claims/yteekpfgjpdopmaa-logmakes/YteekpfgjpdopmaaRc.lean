/-
  The document's Entry, Entries: copies.
-/
import Derived.Test.YteekpfgjpdopmaaAp
namespace Go.Proofs.Yteekpfgjpdopmaa
open Go.RowKit
set_option linter.unusedVariables false

set_option maxRecDepth 100000 in
set_option maxHeartbeats 1000000 in
theorem refEntry_any (t i k : Int) (a : Option Addr) (d : List UInt8) (cap M : Nat) (w : World) (hs : Sl M w (.slice a d.length cap) d) (hM : M ≤ w.heap.size) (hd : d.length ≤ 1000000000) :
    Calls Try.prog 67 #[.agg #[.int .i64 t, .int .i64 i, .int .i64 k, .slice a d.length cap]] w fun e w' => ∃ xa xc, e = .returned (.agg #[.int .i64 t, .int .i64 i, .int .i64 k, .slice xa d.length xc]) ∧ Ow w.heap.size w' (.slice xa d.length xc) d ∧ Below w.heap.size w w' := by
  obtain ⟨W2, hW2⟩ : ∃ W2, (w.alloc (.cells #[.int .i64 t, .int .i64 i, .int .i64 k, .slice a d.length cap] 40)).alloc (.cells #[.int .i64 0, .int .i64 0, .int .i64 0, .slice none 0 0] 40) = W2 := ⟨_, rfl⟩
  have HW2 : Hid ((w.alloc (.cells #[.int .i64 t, .int .i64 i, .int .i64 k, .slice a d.length cap] 40)).alloc (.cells #[.int .i64 0, .int .i64 0, .int .i64 0, .slice none 0 0] 40) = W2) := hW2
  have HZ : Hid (W2.heap.size = w.heap.size + 2) := by show W2.heap.size = _; rw [← hW2]; simp
  have HB : Hid (Below w.heap.size w W2) := by show Below _ _ _; rw [← hW2]; exact ((Below.refl _ w).alloc (by simp) _).alloc (by simp) _
  have HX : Hid (∀ w1, Below W2.heap.size W2 w1 → w1.heap[w.heap.size]? = some (.cells #[.int .i64 t, .int .i64 i, .int .i64 k, .slice a d.length cap] 40 (0, 0)) ∧ w1.heap[w.heap.size + 1]? = some (.cells #[.int .i64 0, .int .i64 0, .int .i64 0, .slice none 0 0] 40 (0, 0))) := fun w1 hg => by
    refine ⟨(hg.block _ (by rw [HZ.out]; omega)).trans ?_, (hg.block _ (by rw [HZ.out]; omega)).trans ?_⟩
    · rw [← hW2]
      exact (heap_alloc_old _ _ (by simp)).trans (heap_alloc_new w _)
    · rw [← hW2]
      have := heap_alloc_new (w.alloc (.cells #[.int .i64 t, .int .i64 i, .int .i64 k, .slice a d.length cap] 40)) (.cells #[.int .i64 0, .int .i64 0, .int .i64 0, .slice none 0 0] 40)
      rw [World.size_alloc] at this
      exact this
  obtain ⟨hx0, hx1⟩ := HX.out W2 (Below.refl _ _)
  obtain ⟨⟨c0, c1, c2, c3⟩, -⟩ := cells4 hx0
  have HBY : Hid (∀ w1, Below w.heap.size w w1 → Calls Try.prog 72 #[.slice a d.length cap] w1 fun e w' => ∃ v', e = .returned v' ∧ Ow w1.heap.size w' v' d ∧ Below w1.heap.size w1 w') := fun w1 hB => bytes_any M _ d w1 (hs.below (hB.mono hM)) (Nat.le_trans hM hB.size) (by omega)
  have HBW : Hid (Calls _ _ _ _ _) := HBY.out W2.drew HB.out.drew
  have hne : w.heap.size ≠ w.heap.size + 1 := by omega
  clear hs hx0 hx1 hW2 HBY
  go_enter Try.func67, Try.ntmps67
  go_wp2_with fail
  rw [HW2.out]
  go_region_held3 (fun w' => w'.cell? ⟨w.heap.size, 0, none⟩ = some (.int .i64 t) ∧ w'.cell? ⟨w.heap.size, 1, none⟩ = some (.int .i64 i) ∧ w'.cell? ⟨w.heap.size, 2, none⟩ = some (.int .i64 k) ∧ w'.cell? ⟨w.heap.size, 3, none⟩ = some (.slice a d.length cap)) (go_keep)
    (first
      | (go_at_call 72; refine HBW.out.mono ?_; rintro r w1 ⟨v1, rfl, hO1, hB1'⟩; have hB1 : Below W2.heap.size W2 w1 := ⟨hB1'.os, hB1'.tape, hB1'.output, hB1'.size, hB1'.block⟩; obtain ⟨hx0, hx1⟩ := HX.out w1 hB1; obtain ⟨⟨b0, b1, b2, b3⟩, bf⟩ := cells4 hx0; obtain ⟨⟨d0, d1, d2, d3⟩, df⟩ := cells4 hx1; obtain ⟨xa, xc, rfl, -, -⟩ := hO1.shape; have HO1 : Hid (Ow W2.heap.size w1 (.slice xa d.length xc) d) := hO1; have HB1 : Hid (Below W2.heap.size W2 w1) := hB1; have HX0 : Hid (w1.heap[w.heap.size + 1]? = _) := hx1; clear hO1 hB1 hB1' hx0 hx1)
      | fail)
  go_wp2_with fail
  have hO1 : Out (fun j => j = w.heap.size + 1) w1 ((((w1.setCell ⟨w.heap.size + 1, 0, none⟩ (.int .i64 t)).setCell ⟨w.heap.size + 1, 1, none⟩ (.int .i64 i)).setCell ⟨w.heap.size + 1, 2, none⟩ (.int .i64 k)).setCell ⟨w.heap.size + 1, 3, none⟩ (.slice xa d.length xc)) :=
    ((((Out.refl (fun j => j = w.heap.size + 1) w1).put rfl).put rfl).put rfl).put rfl
  refine bodyPost_ret (results_E rfl _ _ (w.heap.size + 1) rfl (set4 HX0.out _ _ _ _)) rfl ?_
  refine ⟨xa, xc, rfl, (HO1.out.base HB.out.size).out hO1 ?_, ?_⟩
  · rintro g hg' rfl
    exact HO1.out.not_at HX0.out (by decide) hg'
  · have hB1 : Below w.heap.size w w1 := HB.out.trans (HB1.out.mono HB.out.size)
    exact hB1.trans (hO1.below hB1.size (fun j hj => by omega))

set_option maxRecDepth 100000 in
set_option maxHeartbeats 2000000 in
/-- Entries. -/
theorem refEntries_any (va : Option Addr) (vc : Nat) (es : List Ent) (M : Nat) (w : World) (hE : EntsAt M w va es) (hM : M ≤ w.heap.size) (hn : es.length ≤ 100000) (hd : ∀ e ∈ es, e.d.length ≤ 1000000000) :
    Calls Try.prog 16 #[.slice va es.length vc] w fun e w' => ∃ v fs, e = .returned v ∧ EntsOw w.heap.size w' v fs ∧ fs.map Ent.says = es.map Ent.says ∧ Below w.heap.size w w' := by
  have HE : Hid (EntsAt M w va es) := hE
  clear hE
  go_enter Try.func16, Try.ntmps16
  go_wp2_with fail
  go_loopw [3, 4] (fun ov iv wr => ∃ (k : Nat) (fs : List Ent), iv = .int .i64 (k : Int) ∧ k ≤ es.length ∧ fs.length = k ∧ fs.map Ent.says = (es.take k).map Ent.says ∧ EntsOw w.heap.size wr ov fs ∧ Below w.heap.size w wr) (fun _ iv _ => es.length - (intOf iv).toNat)
  case atStart => exact ⟨0, [], rfl, Nat.zero_le _, rfl, rfl, EntsOw.nil _ _, Below.refl _ _⟩
  case round =>
    obtain ⟨k, fs, rfl, hk, hf, hsy, hO, hB⟩ := hrel
    have HF : Hid (fs.length = k) := hf
    have HSY : Hid (fs.map Ent.says = (es.take k).map Ent.says) := hsy
    obtain ⟨oa, oc, rfl, hoc1, hoc2⟩ := hO.shape
    have HO : Hid (EntsOw w.heap.size wr (.slice oa fs.length oc) fs) := hO
    have HB : Hid (Below w.heap.size w wr) := hB
    clear hf hsy hO hB
    by_cases hlt : k < es.length
    · obtain ⟨b, off, hea, hbM, he⟩ := HE.out.at hlt
      subst hea
      have he' := he.below hbM (HB.out.mono hM)
      have hdl : (es.getD k nilEnt).d.length ≤ 1000000000 := hd _ (by rw [List.getD_eq_getElem?_getD, List.getElem?_eq_getElem hlt]; exact List.getElem_mem hlt)
      have HTK : Hid (es.take (k + 1) = es.take k ++ [es.getD k nilEnt]) := take_succ' hlt
      generalize es.getD k nilEnt = e at *
      obtain ⟨et, ei, ek, eaa, ecc, ed⟩ := e
      obtain ⟨c0, c1, c2, c3, c4⟩ := he'
      unfold Ent.x at c3 c4
      simp only at c0 c1 c2 c3 c4 hdl
      have hbw : b < wr.heap.size := by have := HB.out.size; omega
      have i0 : (0 : Int) ≤ (k : Int) := by omega
      have i1 : (k : Int) < (es.length : Int) := by omega
      have HEN : Hid (Calls _ _ _ _ _) := refEntry_any et ei ek eaa ed ecc M wr c4 (Nat.le_trans hM HB.out.size) hdl
      have hfl : fs.length + 1 ≤ 1000000000 := by rw [HF.out]; omega
      clear he c4 hd HE
      go_wp2_with fail
      refine HEN.out.mono ?_
      rintro r w5 ⟨xa, xc, rfl, hO5, hB5⟩
      have HO5 : Hid (Ow wr.heap.size w5 (.slice xa ed.length xc) ed) := hO5
      have HB5 : Hid (Below wr.heap.size wr w5) := hB5
      have hat6 := ents_one w5 (⟨et, ei, ek, xa, xc, ed⟩ : Ent) w5.heap.size (Nat.le_refl _) (hO5.sl (Nat.le_refl _)) (Nat.le_refl _)
      have hE5 := (HO.out.below hB5).alloc (.cells #[.int .i64 et, .int .i64 ei, .int .i64 ek, .slice xa ed.length xc] 40)
      have HE5 : Hid (EntsOw _ _ _ _) := hE5
      have hrow := hE5.row
      have hN5 : w.heap.size ≤ (w5.alloc (.cells #[.int .i64 et, .int .i64 ei, .int .i64 ek, .slice xa ed.length xc] 40)).heap.size := by have := HB.out.size; have := hB5.size; simp; omega
      clear hO5 hB5 HEN hE5
      go_wp2_with (at_builtin; refine wpList_append_ents rfl _ _ rfl w.heap.size (w5.heap.size + 1) _ (some ⟨w5.heap.size, 0, none⟩) 1 fs [(⟨et, ei, ek, xa, xc, ed⟩ : Ent)] rfl hrow rfl hat6 hfl hN5 ?_; intro v' w6 q1 q2 q3)
      have hO6 : Ow w.heap.size (w5.alloc (.cells #[.int .i64 et, .int .i64 ei, .int .i64 ek, .slice xa ed.length xc] 40)) (.slice xa ed.length xc) ed := (HO5.out.base HB.out.size).alloc _
      have hfin := EntsOw.app (fs := [(⟨et, ei, ek, xa, xc, ed⟩ : Ent)]) HE5.out (fun e he => by obtain rfl := List.mem_singleton.1 he; exact hO6) q1 q2
      refine ⟨⟨k + 1, _, by go_num, by omega, by simp [HF.out], ?_, hfin, ?_⟩, by simp [intOf]; omega⟩
      · rw [HTK.out, List.map_append, List.map_append, HSY.out]; rfl
      · have hB6 : Below w.heap.size w (w5.alloc (.cells #[.int .i64 et, .int .i64 ei, .int .i64 ek, .slice xa ed.length xc] 40)) := (HB.out.trans (HB5.out.mono HB.out.size)).alloc (by have := HB.out.size; have := HB5.out.size; omega) _
        exact hB6.grown q2 hN5 (fun j hj => (HE5.out.lt hj).1)
    · have hkn : k = es.length := by omega
      have HFI : Hid (fs.map Ent.says = es.map Ent.says) := by show _ = _; rw [HSY.out, List.take_of_length_le (by omega)]
      go_wp2
      go_ret
      exact ⟨_, fs, rfl, HO.out, HFI.out, HB.out⟩
end Go.Proofs.Yteekpfgjpdopmaa
