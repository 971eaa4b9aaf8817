/-
  The document's Entry, Entries: copies of any length. LogMakes. Entries that came in, of the form's reach.
-/
import Derived.Test.YteekpfgjpdopmaaXb
import Derived.Test.YteekpfgjpdopmaaJpl
import Derived.Deep.RegionHeld3
namespace Go.Proofs.Yteekpfgjpdopmaa
open Go.RowKit
set_option linter.unusedVariables false

set_option maxRecDepth 100000 in
set_option maxHeartbeats 1000000 in
theorem refEntry_anyX (t i k : Int) (a : Option Addr) (d : List UInt8) (cap M : Nat) (w : World) (hs : Sl M w (.slice a d.length cap) d) (hM : M ≤ w.heap.size) (hd : d.length ≤ 140737488355328) :
    Calls Try.prog 67 #[.agg #[.int .i64 t, .int .i64 i, .int .i64 k, .slice a d.length cap]] w fun e w' => ∃ xa xc, e = .returned (.agg #[.int .i64 t, .int .i64 i, .int .i64 k, .slice xa d.length xc]) ∧ Ow w.heap.size w' (.slice xa d.length xc) d ∧ Below w.heap.size w w' := by
  obtain ⟨W2, hW2⟩ : ∃ W2, (w.alloc (.cells #[.int .i64 t, .int .i64 i, .int .i64 k, .slice a d.length cap] 40)).alloc (.cells #[.int .i64 0, .int .i64 0, .int .i64 0, .slice none 0 0] 40) = W2 := ⟨_, rfl⟩
  have HW2 : Hid ((w.alloc (.cells #[.int .i64 t, .int .i64 i, .int .i64 k, .slice a d.length cap] 40)).alloc (.cells #[.int .i64 0, .int .i64 0, .int .i64 0, .slice none 0 0] 40) = W2) := hW2
  have HZ : Hid (W2.heap.size = w.heap.size + 2) := by show W2.heap.size = _; rw [← hW2]; simp
  have HB : Hid (Below w.heap.size w W2) := by show Below _ _ _; rw [← hW2]; exact ((Below.refl _ w).alloc (by simp) _).alloc (by simp) _
  have HX : Hid (∀ w1, Below W2.heap.size W2 w1 → w1.heap[w.heap.size]? = some (.cells #[.int .i64 t, .int .i64 i, .int .i64 k, .slice a d.length cap] 40 (0, 0)) ∧ w1.heap[w.heap.size + 1]? = some (.cells #[.int .i64 0, .int .i64 0, .int .i64 0, .slice none 0 0] 40 (0, 0))) := fun w1 hg => by
    refine ⟨(hg.block _ (by rw [HZ.out]; omega)).trans ?_, (hg.block _ (by rw [HZ.out]; omega)).trans ?_⟩
    · rw [← hW2]
      exact (heap_alloc_old _ _ (by simp)).trans (heap_alloc_new w _)
    · rw [← hW2]
      have := heap_alloc_new (w.alloc (.cells #[.int .i64 t, .int .i64 i, .int .i64 k, .slice a d.length cap] 40)) (.cells #[.int .i64 0, .int .i64 0, .int .i64 0, .slice none 0 0] 40)
      rw [World.size_alloc] at this
      exact this
  obtain ⟨hx0, hx1⟩ := HX.out W2 (Below.refl _ _)
  obtain ⟨⟨c0, c1, c2, c3⟩, -⟩ := cells4 hx0
  have HBY : Hid (∀ w1, Below w.heap.size w w1 → Calls Try.prog 72 #[.slice a d.length cap] w1 fun e w' => ∃ v', e = .returned v' ∧ Ow w1.heap.size w' v' d ∧ Below w1.heap.size w1 w') := fun w1 hB => bytes_anyX M _ d w1 (hs.below (hB.mono hM)) (Nat.le_trans hM hB.size) (by omega)
  have HBW : Hid (Calls _ _ _ _ _) := HBY.out W2.drew HB.out.drew
  have hne : w.heap.size ≠ w.heap.size + 1 := by omega
  clear hs hx0 hx1 hW2 HBY
  go_enter Try.func67, Try.ntmps67
  go_wp2_with fail
  rw [HW2.out]
  go_region_held3 (fun w' => w'.cell? ⟨w.heap.size, 0, none⟩ = some (.int .i64 t) ∧ w'.cell? ⟨w.heap.size, 1, none⟩ = some (.int .i64 i) ∧ w'.cell? ⟨w.heap.size, 2, none⟩ = some (.int .i64 k) ∧ w'.cell? ⟨w.heap.size, 3, none⟩ = some (.slice a d.length cap)) (go_keep)
    (first
      | (go_at_call 72; refine HBW.out.mono ?_; rintro r w1 ⟨v1, rfl, hO1, hB1'⟩; have hB1 : Below W2.heap.size W2 w1 := ⟨hB1'.os, hB1'.tape, hB1'.output, hB1'.size, hB1'.block⟩; obtain ⟨hx0, hx1⟩ := HX.out w1 hB1; obtain ⟨⟨b0, b1, b2, b3⟩, bf⟩ := cells4 hx0; obtain ⟨⟨d0, d1, d2, d3⟩, df⟩ := cells4 hx1; obtain ⟨xa, xc, rfl, -, -⟩ := hO1.shape; have HO1 : Hid (Ow W2.heap.size w1 (.slice xa d.length xc) d) := hO1; have HB1 : Hid (Below W2.heap.size W2 w1) := hB1; have HX0 : Hid (w1.heap[w.heap.size + 1]? = _) := hx1; clear hO1 hB1 hB1' hx0 hx1)
      | fail)
  go_wp2_with fail
  have hO1 : Out (fun j => j = w.heap.size + 1) w1 ((((w1.setCell ⟨w.heap.size + 1, 0, none⟩ (.int .i64 t)).setCell ⟨w.heap.size + 1, 1, none⟩ (.int .i64 i)).setCell ⟨w.heap.size + 1, 2, none⟩ (.int .i64 k)).setCell ⟨w.heap.size + 1, 3, none⟩ (.slice xa d.length xc)) :=
    ((((Out.refl (fun j => j = w.heap.size + 1) w1).put rfl).put rfl).put rfl).put rfl
  refine bodyPost_ret (results_E rfl _ _ (w.heap.size + 1) rfl (set4 HX0.out _ _ _ _)) rfl ?_
  refine ⟨xa, xc, rfl, (HO1.out.base HB.out.size).out hO1 ?_, ?_⟩
  · rintro g hg' rfl
    exact HO1.out.not_at HX0.out (by decide) hg'
  · have hB1 : Below w.heap.size w w1 := HB.out.trans (HB1.out.mono HB.out.size)
    exact hB1.trans (hO1.below hB1.size (fun j hj => by omega))

set_option maxRecDepth 100000 in
set_option maxHeartbeats 2000000 in
/-- Entries. -/
theorem refEntries_anyX (va : Option Addr) (vc : Nat) (es : List Ent) (M : Nat) (w : World) (hE : EntsAt M w va es) (hM : M ≤ w.heap.size) (hn : es.length ≤ 100000) (hd : ∀ e ∈ es, e.d.length ≤ 140737488355328) :
    Calls Try.prog 16 #[.slice va es.length vc] w fun e w' => ∃ v fs, e = .returned v ∧ EntsOw w.heap.size w' v fs ∧ fs.map Ent.says = es.map Ent.says ∧ Below w.heap.size w w' := by
  have HE : Hid (EntsAt M w va es) := hE
  clear hE
  go_enter Try.func16, Try.ntmps16
  go_wp2_with fail
  go_loopw [3, 4] (fun ov iv wr => ∃ (k : Nat) (fs : List Ent), iv = .int .i64 (k : Int) ∧ k ≤ es.length ∧ fs.length = k ∧ fs.map Ent.says = (es.take k).map Ent.says ∧ EntsOw w.heap.size wr ov fs ∧ Below w.heap.size w wr) (fun _ iv _ => es.length - (intOf iv).toNat)
  case atStart => exact ⟨0, [], rfl, Nat.zero_le _, rfl, rfl, EntsOw.nil _ _, Below.refl _ _⟩
  case round =>
    obtain ⟨k, fs, rfl, hk, hf, hsy, hO, hB⟩ := hrel
    have HF : Hid (fs.length = k) := hf
    have HSY : Hid (fs.map Ent.says = (es.take k).map Ent.says) := hsy
    obtain ⟨oa, oc, rfl, hoc1, hoc2⟩ := hO.shape
    have HO : Hid (EntsOw w.heap.size wr (.slice oa fs.length oc) fs) := hO
    have HB : Hid (Below w.heap.size w wr) := hB
    clear hf hsy hO hB
    by_cases hlt : k < es.length
    · obtain ⟨b, off, hea, hbM, he⟩ := HE.out.at hlt
      subst hea
      have he' := he.below hbM (HB.out.mono hM)
      have hdl : (es.getD k nilEnt).d.length ≤ 140737488355328 := hd _ (by rw [List.getD_eq_getElem?_getD, List.getElem?_eq_getElem hlt]; exact List.getElem_mem hlt)
      have HTK : Hid (es.take (k + 1) = es.take k ++ [es.getD k nilEnt]) := take_succ' hlt
      generalize es.getD k nilEnt = e at *
      obtain ⟨et, ei, ek, eaa, ecc, ed⟩ := e
      obtain ⟨c0, c1, c2, c3, c4⟩ := he'
      unfold Ent.x at c3 c4
      simp only at c0 c1 c2 c3 c4 hdl
      have hbw : b < wr.heap.size := by have := HB.out.size; omega
      have i0 : (0 : Int) ≤ (k : Int) := by omega
      have i1 : (k : Int) < (es.length : Int) := by omega
      have HEN : Hid (Calls _ _ _ _ _) := refEntry_anyX et ei ek eaa ed ecc M wr c4 (Nat.le_trans hM HB.out.size) hdl
      have hfl : fs.length + 1 ≤ 1000000000 := by rw [HF.out]; omega
      clear he c4 hd HE
      go_wp2_with fail
      refine HEN.out.mono ?_
      rintro r w5 ⟨xa, xc, rfl, hO5, hB5⟩
      have HO5 : Hid (Ow wr.heap.size w5 (.slice xa ed.length xc) ed) := hO5
      have HB5 : Hid (Below wr.heap.size wr w5) := hB5
      have hat6 := ents_one w5 (⟨et, ei, ek, xa, xc, ed⟩ : Ent) w5.heap.size (Nat.le_refl _) (hO5.sl (Nat.le_refl _)) (Nat.le_refl _)
      have hE5 := (HO.out.below hB5).alloc (.cells #[.int .i64 et, .int .i64 ei, .int .i64 ek, .slice xa ed.length xc] 40)
      have HE5 : Hid (EntsOw _ _ _ _) := hE5
      have hrow := hE5.row
      have hN5 : w.heap.size ≤ (w5.alloc (.cells #[.int .i64 et, .int .i64 ei, .int .i64 ek, .slice xa ed.length xc] 40)).heap.size := by have := HB.out.size; have := hB5.size; simp; omega
      clear hO5 hB5 HEN hE5
      go_wp2_with (at_builtin; refine wpList_append_ents rfl _ _ rfl w.heap.size (w5.heap.size + 1) _ (some ⟨w5.heap.size, 0, none⟩) 1 fs [(⟨et, ei, ek, xa, xc, ed⟩ : Ent)] rfl hrow rfl hat6 hfl hN5 ?_; intro v' w6 q1 q2 q3)
      have hO6 : Ow w.heap.size (w5.alloc (.cells #[.int .i64 et, .int .i64 ei, .int .i64 ek, .slice xa ed.length xc] 40)) (.slice xa ed.length xc) ed := (HO5.out.base HB.out.size).alloc _
      have hfin := EntsOw.app (fs := [(⟨et, ei, ek, xa, xc, ed⟩ : Ent)]) HE5.out (fun e he => by obtain rfl := List.mem_singleton.1 he; exact hO6) q1 q2
      refine ⟨⟨k + 1, _, by go_num, by omega, by simp [HF.out], ?_, hfin, ?_⟩, by simp [intOf]; omega⟩
      · rw [HTK.out, List.map_append, List.map_append, HSY.out]; rfl
      · have hB6 : Below w.heap.size w (w5.alloc (.cells #[.int .i64 et, .int .i64 ei, .int .i64 ek, .slice xa ed.length xc] 40)) := (HB.out.trans (HB5.out.mono HB.out.size)).alloc (by have := HB.out.size; have := HB5.out.size; omega) _
        exact hB6.grown q2 hN5 (fun j hj => (HE5.out.lt hj).1)
    · have hkn : k = es.length := by omega
      have HFI : Hid (fs.map Ent.says = es.map Ent.says) := by show _ = _; rw [HSY.out, List.take_of_length_le (by omega)]
      go_wp2
      go_ret
      exact ⟨_, fs, rfl, HO.out, HFI.out, HB.out⟩
end Go.Proofs.Yteekpfgjpdopmaa
namespace Go.Proofs.Yteekpfgjpdopmaa
open Go.ChangeShapes Go.WideShapes Go.ChangeAt Go.RowKit
set_option linter.unusedVariables false

theorem few_one (w : World) : OpsAt (w.heap.size + 1) (w.alloc (.cells #[.int .i64 0, .int .i64 0, .int .i64 0, .int .i64 0, .slice none 0 0, .slice none 0 0] 37)) (some ⟨w.heap.size, 0, none⟩) [nilOpn] := by
  have hx := heap_alloc_new w (.cells #[.int .i64 0, .int .i64 0, .int .i64 0, .int .i64 0, .slice none 0 0, .slice none 0 0] 37)
  refine .inr ⟨w.heap.size, 0, rfl, Nat.lt_succ_self _, fun i hi => ?_⟩
  obtain rfl : i = 0 := by simp at hi; exact hi
  refine ⟨⟨?_, ?_, ?_, ?_, ?_, ?_⟩, .inl rfl, nil_sl _ _, Nat.le_refl _, Nat.zero_le _⟩ <;> (simp only [World.cell?, hx]; rfl)

set_option maxRecDepth 100000 in
set_option maxHeartbeats 16000000 in
theorem makes_walk (N : Nat) (ix tm cm : Int) (ea : Option Addr) (ec : Nat) (es : List Ent) (oa : Option Addr) (oc : Nat) (l : List Opn) (w : World) (hE : EntsAt N w ea es) (hel : es.length ≤ ec) (hem : ec ≤ maxLen) (hed : ∀ e ∈ es, e.d.length ≤ 140737488351232) (hO : OpsAt N w oa l) (hN : N ≤ w.heap.size) (hl : l.length ≤ 9223372036854775807) (hI : ∀ i, i < l.length → OpnIn (l.getD i nilOpn)) :
    Calls Try.prog 4 #[.int .i64 ix, .int .i64 tm, .int .i64 cm, .slice ea es.length ec, .slice oa l.length oc] w fun e w' => e = .returned (.bool true) ∧ Below w.heap.size w w' := by
  have hf := first_any w
  have HO : Hid (OpsAt N w oa l) := hO
  have HE : Hid (EntsAt N w ea es) := hE
  have HI : Hid (∀ i, i < l.length → OpnIn (l.getD i nilOpn)) := hI
  have HED : Hid (∀ e ∈ es, e.d.length ≤ 140737488351232) := hed
  have HEM : Hid (es.length ≤ ec ∧ ec ≤ maxLen) := ⟨hel, hem⟩
  have hes : es.length ≤ 9223372036854775807 := by unfold maxLen at hem; omega
  clear hO hI hE hed hel hem
  go_enter Try.func4, Try.ntmps4
  go_wp2_with fail
  refine hf.mono ?_
  rintro e w1 ⟨rfl, hB1⟩
  have HBW : Hid (Below w.heap.size w w1) := hB1
  clear hB1 hf
  go_wp2_with fail
  refine (few_any oa oc l N w1 (HO.out.below (HBW.out.mono hN)) (Nat.le_trans hN HBW.out.size) hl).mono ?_
  rintro e w' ⟨sm, rfl, hsm, hw⟩
  subst w'
  have HSM : Hid (Few l sm) := hsm
  clear hsm
  cases sm with
  | false =>
    have HEW : Hid (EntsAt N w1 ea es) := HE.out.below (HBW.out.mono hN)
    have HNW : Hid (N ≤ w1.heap.size) := Nat.le_trans hN HBW.out.size
    clear HE
    go_wp2_with fail
    go_loopw [13, 14] (fun nv iv wr => ∃ (n : Int) (k : Nat), nv = .int .i64 n ∧ iv = .int .i64 (k : Int) ∧ k ≤ es.length ∧ k ≤ 300 ∧ 0 ≤ n ∧ n ≤ 20000 * (k : Int) ∧ wr = w1) (fun _ iv _ => es.length - (intOf iv).toNat)
    case atStart => exact ⟨0, 0, rfl, rfl, Nat.zero_le _, by omega, by omega, by omega, rfl⟩
    case round =>
      obtain ⟨n, k, rfl, rfl, hk, hk3, hn0, hn4, hwr⟩ := hrel
      subst hwr
      by_cases hlt : k < es.length
      · have i1 : (k : Int) < (es.length : Int) := by omega
        by_cases h3 : k < 300
        · obtain ⟨b2, o2, hea, hb2, he2⟩ := HEW.out.at hlt
          subst hea
          generalize es.getD k nilEnt = e at *
          obtain ⟨et, ei, ek, eaa, ecc, ed⟩ := e
          obtain ⟨-, -, -, d3, -⟩ := he2
          unfold Ent.x at d3
          simp only at d3
          have i0 : (0 : Int) ≤ (k : Int) := by omega
          have hb2w : b2 < wr.heap.size := by have := HNW.out; omega
          by_cases hdl : (ed.length : Int) ≤ 20000
          · go_wp2
            exact ⟨⟨_, k + 1, rfl, by go_num, by omega, by omega, by omega, by omega, by first | rfl | trivial⟩, by simp [intOf]; omega⟩
          · have hdl' : (20000 : Int) < (ed.length : Int) := by omega
            clear hdl
            go_wp2
            exact ⟨⟨_, k + 1, rfl, by go_num, by omega, by omega, by omega, by omega, by first | rfl | trivial⟩, by simp [intOf]; omega⟩
        · have h3' : decide ((k : Int) < 300) = false := by simp; omega
          have hk300 : k = 300 := by omega
          have hl3 : (300 : Int) < (es.length : Int) := by omega
          go_wp2
          go_ret
          exact ⟨rfl, HBW.out⟩
      · have hke : (es.length : Int) ≤ (k : Int) := by omega
        have hl3 : (es.length : Int) ≤ 300 := by omega
        have hek : es.length ≤ 300 := by omega
        go_wp2
        go_ret
        exact ⟨rfl, HBW.out⟩
  | true =>
  obtain ⟨W2, hW2⟩ : ∃ W2, w1.alloc (.cells #[.int .i64 0, .int .i64 0, .int .i64 0, .int .i64 0, .slice none 0 0, .slice none 0 0] 37) = W2 := ⟨_, rfl⟩
  have HW2 : Hid (w1.alloc (.cells #[.int .i64 0, .int .i64 0, .int .i64 0, .int .i64 0, .slice none 0 0, .slice none 0 0] 37) = W2) := hW2
  have ho := few_one w1
  rw [hW2] at ho
  have C2 : Calls Try.prog 10 #[.slice (some ⟨w1.heap.size, 0, none⟩) 1 1] W2 fun e w' => FewR [nilOpn] W2 e w' := few_any (some ⟨w1.heap.size, 0, none⟩) 1 [nilOpn] (w1.heap.size + 1) W2 ho (by rw [← hW2]; simp) (by simp)
  have HC2 : Hid (Calls _ _ _ _ _) := C2
  have HBW2 : Hid (Below w.heap.size w W2) := by show Below _ _ _; rw [← hW2]; exact HBW.out.alloc HBW.out.size _
  have HES : Hid (∀ k, k < l.length → (l.getD k nilOpn).es.length ≤ 64) := (HSM.out rfl).2
  have hlen : l.length ≤ 300 := (HSM.out rfl).1
  clear hW2 ho C2 HBW HSM
  have HBW : Hid (Below w.heap.size w W2) := HBW2.out
  clear HBW2
  go_wp2_with fail
  rw [HW2.out]
  refine HC2.out.mono ?_
  rintro e w' ⟨s2, rfl, -, hw⟩
  subst w'
  have HEW : Hid (EntsAt N W2 ea es) := HE.out.below (HBW.out.mono hN)
  have HNW : Hid (N ≤ W2.heap.size) := Nat.le_trans hN HBW.out.size
  clear HC2 HW2
  cases s2 with
  | false =>
    clear HE
    go_wp2_with fail
    go_loopw [13, 14] (fun nv iv wr => ∃ (n : Int) (k : Nat), nv = .int .i64 n ∧ iv = .int .i64 (k : Int) ∧ k ≤ es.length ∧ k ≤ 300 ∧ 0 ≤ n ∧ n ≤ 20000 * (k : Int) ∧ wr = W2) (fun _ iv _ => es.length - (intOf iv).toNat)
    case atStart => exact ⟨0, 0, rfl, rfl, Nat.zero_le _, by omega, by omega, by omega, rfl⟩
    case round =>
      obtain ⟨n, k, rfl, rfl, hk, hk3, hn0, hn4, hwr⟩ := hrel
      subst hwr
      by_cases hlt : k < es.length
      · have i1 : (k : Int) < (es.length : Int) := by omega
        by_cases h3 : k < 300
        · obtain ⟨b2, o2, hea, hb2, he2⟩ := HEW.out.at hlt
          subst hea
          generalize es.getD k nilEnt = e at *
          obtain ⟨et, ei, ek, eaa, ecc, ed⟩ := e
          obtain ⟨-, -, -, d3, -⟩ := he2
          unfold Ent.x at d3
          simp only at d3
          have i0 : (0 : Int) ≤ (k : Int) := by omega
          have hb2w : b2 < wr.heap.size := by have := HNW.out; omega
          by_cases hdl : (ed.length : Int) ≤ 20000
          · go_wp2
            exact ⟨⟨_, k + 1, rfl, by go_num, by omega, by omega, by omega, by omega, by first | rfl | trivial⟩, by simp [intOf]; omega⟩
          · have hdl' : (20000 : Int) < (ed.length : Int) := by omega
            clear hdl
            go_wp2
            exact ⟨⟨_, k + 1, rfl, by go_num, by omega, by omega, by omega, by omega, by first | rfl | trivial⟩, by simp [intOf]; omega⟩
        · have h3' : decide ((k : Int) < 300) = false := by simp; omega
          have hk300 : k = 300 := by omega
          have hl3 : (300 : Int) < (es.length : Int) := by omega
          go_wp2
          go_ret
          exact ⟨rfl, HBW.out⟩
      · have hke : (es.length : Int) ≤ (k : Int) := by omega
        have hl3 : (es.length : Int) ≤ 300 := by omega
        have hek : es.length ≤ 300 := by omega
        go_wp2
        go_ret
        exact ⟨rfl, HBW.out⟩
  | true =>
    go_wp2_with fail
    go_loopw [13, 14] (fun nv iv wr => ∃ (n : Int) (k : Nat), nv = .int .i64 n ∧ iv = .int .i64 (k : Int) ∧ k ≤ es.length ∧ k ≤ 300 ∧ 0 ≤ n ∧ n ≤ 20000 * (k : Int) ∧ wr = W2) (fun _ iv _ => es.length - (intOf iv).toNat)
    case atStart => exact ⟨0, 0, rfl, rfl, Nat.zero_le _, by omega, by omega, by omega, rfl⟩
    case round =>
      obtain ⟨n, k, rfl, rfl, hk, hk3, hn0, hn4, hwr⟩ := hrel
      subst hwr
      by_cases hlt : k < es.length
      · have i1 : (k : Int) < (es.length : Int) := by omega
        by_cases h3 : k < 300
        · obtain ⟨b2, o2, hea, hb2, he2⟩ := HEW.out.at hlt
          subst hea
          clear HE
          generalize es.getD k nilEnt = e at *
          obtain ⟨et, ei, ek, eaa, ecc, ed⟩ := e
          obtain ⟨-, -, -, d3, -⟩ := he2
          unfold Ent.x at d3
          simp only at d3
          have i0 : (0 : Int) ≤ (k : Int) := by omega
          have hb2w : b2 < wr.heap.size := by have := HNW.out; omega
          by_cases hdl : (ed.length : Int) ≤ 20000
          · go_wp2
            exact ⟨⟨_, k + 1, rfl, by go_num, by omega, by omega, by omega, by omega, by first | rfl | trivial⟩, by simp [intOf]; omega⟩
          · have hdl' : (20000 : Int) < (ed.length : Int) := by omega
            clear hdl
            go_wp2
            exact ⟨⟨_, k + 1, rfl, by go_num, by omega, by omega, by omega, by omega, by first | rfl | trivial⟩, by simp [intOf]; omega⟩
        · have h3' : decide ((k : Int) < 300) = false := by simp; omega
          have hk300 : k = 300 := by omega
          have hl3 : (300 : Int) < (es.length : Int) := by omega
          go_wp2
          go_ret
          exact ⟨rfl, HBW.out⟩
      · have hke : (es.length : Int) ≤ (k : Int) := by omega
        have hl3 : (es.length : Int) ≤ 300 := by omega
        have hek : es.length ≤ 300 := by omega
        by_cases hn2 : n ≤ 20000
        · generalize wr = wq at *
          have HC3 : Hid (Calls _ _ _ _ _) := refEntries_anyX ea ec es N wq HEW.out HNW.out (by omega) (fun e he => by have := HED.out e he; omega)
          go_wp2_with fail
          refine HC3.out.mono ?_
          rintro r w3 ⟨v3, fs, rfl, hE3, hs3, hB3⟩
          obtain ⟨a3, c3, rfl, hc1, hc2⟩ := hE3.shape
          have hfl : fs.length = es.length := by have := congrArg List.length hs3; simpa using this
          have HE3 : Hid (EntsOw wq.heap.size w3 (.slice a3 fs.length c3) fs) := hE3
          have HS3 : Hid (fs.map Ent.says = es.map Ent.says) := hs3
          have HB3 : Hid (Below wq.heap.size wq w3) := hB3
          have HFL : Hid (fs.length = es.length) := hfl
          have HBW3 : Hid (Below w.heap.size w w3) := HBW.out.trans (hB3.mono HBW.out.size)
          clear hE3 hs3 hB3 hfl HC3
          by_cases hck : ckNew ix tm (es.map Ent.says) = 0
          · have HCK : Hid (ckNew ix tm (es.map Ent.says) = 0) := hck
            have C4 := New_any ix tm cm a3 c3 fs w3.heap.size w3 HE3.out.at (Nat.le_refl _) (by rw [HS3.out]; exact hck)
            rw [HS3.out] at C4
            have HC4 : Hid (Calls _ _ _ _ _) := C4
            clear C4 hck
            go_wp2_with fail
            refine HC4.out.mono ?_
            rintro r w4 ⟨b, S, rfl, hL, hB4⟩
            have HL : Hid (Lg w3.heap.size S w4 b (newP ix tm cm (es.map Ent.says))) := hL
            have HB4 : Hid (Below w3.heap.size w3 w4) := hB4
            have C5 := RNew_any ix tm cm ea ec es N w4 (HE.out.below ((HBW3.out.trans (hB4.mono HBW3.out.size)).mono hN)) (Nat.le_trans hN (Nat.le_trans HBW3.out.size hB4.size)) (by omega)
            have HC5 : Hid (Calls _ _ _ _ _) := C5
            clear C5 hL hB4 HC4
            go_wp2_with fail
            refine HC5.out.mono ?_
            rintro r w5 ⟨hB5, ⟨hne, -⟩ | ⟨-, d, T, rfl, hR⟩⟩
            · exact absurd HCK.out hne
            have HBw : Hid (Bw w3.heap.size S T w5 b d (newP ix tm cm (es.map Ent.says)) (newP ix tm cm (es.map Ent.says))) := Bw.make HL.out HB4.out hR hB5
            have HB5 : Hid (Below w3.heap.size w3 w5) := HB4.out.trans (hB5.mono HB4.out.size)
            generalize newP ix tm cm (es.map Ent.says) = P at *
            clear hR hB5 HC5 HL HB4 HCK
            have C6 := sameEntries_any a3 ea c3 ec fs es w5.heap.size w5 (HE3.out.below HB5.out).at ((HE.out.below ((HBW3.out.trans (HB5.out.mono HBW3.out.size)).mono hN)).mono (Nat.le_trans hN (Nat.le_trans HBW3.out.size HB5.out.size))) (Nat.le_refl _) (by have := HFL.out; omega)
            rw [HS3.out, decide_eq_true rfl] at C6
            have HC6 : Hid (Calls _ _ _ _ _) := C6
            clear C6
            go_wp2_with fail
            refine HC6.out.mono ?_
            rintro r w6 ⟨rfl, hB6⟩
            have HW6 : Hid (Bw w3.heap.size S T w6 b d P P) := HBw.out.below hB6
            have HB6 : Hid (Below w3.heap.size w3 w6) := HB5.out.trans (hB6.mono HB5.out.size)
            clear hB6 HC6 HBw HB5
            have C7 := over_any (HE3.out.below HB6.out).ov (by have := HFL.out; omega)
            have HC7 : Hid (Calls _ _ _ _ _) := C7
            clear C7
            go_wp2_with fail
            refine HC7.out.mono ?_
            rintro r w7 ⟨rfl, hO7⟩
            have HW7 : Hid (Bw w3.heap.size S T w7 b d P P) := ⟨HW6.out.l.out hO7 (fun i hi hx => by have := HW6.out.l.fr i hi; have := (HE3.out.ov.lt hx).2; omega), HW6.out.r.out hO7 (fun i hi hx => by have := HW6.out.r.fr i hi; have := (HE3.out.ov.lt hx).2; omega), HW6.out.ap, Nat.le_trans HW6.out.hN hO7.size⟩
            have HB7 : Hid (Below w.heap.size w w7) := (HBW3.out.trans (HB6.out.mono HBW3.out.size)).trans (hO7.below (Nat.le_trans HBW3.out.size HB6.out.size) (fun i hi => Nat.le_trans HBW.out.size (HE3.out.ov.lt hi).1))
            clear hO7 HC7 HW6 HB6
            have HC8 : Hid (Calls _ _ _ _ _) := same8_any HW7.out
            go_wp2_with (first | (go_at_call 13; refine (num_any _ _).mono ?_; rintro r wz ⟨rfl, hz⟩; subst wz) | fail)
            refine HC8.out.mono ?_
            rintro r w8 ⟨rfl, hB8⟩
            have HW8 : Hid (Bw w3.heap.size S T w8 b d P P) := HW7.out.below hB8
            have HB8 : Hid (Below w.heap.size w w8) := HB7.out.trans (hB8.mono HB7.out.size)
            have HZ3 : Hid (w.heap.size ≤ w3.heap.size) := HBW3.out.size
            clear hB8 HC8 HW7 HB7
            go_wp2_with fail
            go_loopw [21, 22] (fun fv iv wr => ∃ (k : Nat), fv = .bool true ∧ iv = .int .i64 (k : Int) ∧ k ≤ l.length ∧ (∃ S' T' P, Bw w3.heap.size S' T' wr b d P P) ∧ Below w.heap.size w wr) (fun _ iv _ => l.length - (intOf iv).toNat)
            case atStart => exact ⟨0, rfl, rfl, Nat.zero_le _, ⟨S, T, P, HW8.out⟩, HB8.out⟩
            case round =>
              obtain ⟨k, rfl, rfl, hk, ⟨S', T', P', hW⟩, hB⟩ := hrel
              have HW : Hid (Bw w3.heap.size S' T' wr b d P' P') := hW
              have HB : Hid (Below w.heap.size w wr) := hB
              clear hW hB HW8 HB8
              by_cases hlt2 : k < l.length
              · obtain ⟨g, off, hoa, hgN, hop'⟩ := (HO.out.below (HB.out.mono hN)).at hlt2
                subst hoa
                have HDO : Hid (Calls _ _ _ _ _) := does_any HW.out N (l.getD k nilOpn) hop'.2.1 hop'.2.2.1 (Nat.le_trans hN HZ3.out) (by have := HES.out k hlt2; omega) hop'.2.2.2.1 hop'.2.2.2.2 (HI.out k hlt2)
                obtain ⟨⟨c0, c1, c2, c3', c4, c5⟩, -, -, -, -⟩ := hop'
                have hgw : g < wr.heap.size := by have := HB.out.size; omega
                have i0 : (0 : Int) ≤ (k : Int) := by omega
                have i1 : (k : Int) < (l.length : Int) := by omega
                generalize l.getD k nilOpn = o at *
                go_wp2_with fail
                refine HDO.out.mono ?_
                rintro r w9 ⟨S4, T4, P4, rfl, hW4, hB4⟩
                have HW4 : Hid (Bw w3.heap.size S4 T4 w9 b d P4 P4) := hW4
                have HB4 : Hid (Below w.heap.size w w9) := HB.out.trans (hB4.mono HZ3.out)
                clear hW4 hB4 HDO HW HB c0 c1 c2 c3' c4 c5
                go_wp2_with fail
                refine (same8_any HW4.out).mono ?_
                rintro r w10 ⟨rfl, hB5⟩
                have HW5 : Hid (Bw w3.heap.size S4 T4 w10 b d P4 P4) := HW4.out.below hB5
                have HB5 : Hid (Below w.heap.size w w10) := HB4.out.trans (hB5.mono HB4.out.size)
                clear hB5 HW4 HB4
                go_wp2
                exact ⟨⟨k + 1, by simp, by first | go_num | simp, by omega, ⟨S4, T4, P4, HW5.out⟩, HB5.out⟩, by simp [intOf]; omega⟩
              · have hlt' : ¬ (k : Int) < (l.length : Int) := by omega
                go_wp2
                go_ret
                exact ⟨rfl, HB.out⟩
          · have HCK : Hid (ckNew ix tm (es.map Ent.says) ≠ 0) := hck
            have C4 := New_no ix tm cm a3 c3 fs w3.heap.size w3 HE3.out.at (Nat.le_refl _) (by have := HFL.out; omega) (by rw [HS3.out]; exact hck)
            rw [HS3.out] at C4
            have HC4 : Hid (Calls _ _ _ _ _) := C4
            clear C4 hck
            go_wp2_with fail
            refine HC4.out.mono ?_
            rintro r w4 ⟨rfl, hB4⟩
            have HB4 : Hid (Below w3.heap.size w3 w4) := hB4
            have C5 := RNew_any ix tm cm ea ec es N w4 (HE.out.below ((HBW3.out.trans (hB4.mono HBW3.out.size)).mono hN)) (Nat.le_trans hN (Nat.le_trans HBW3.out.size hB4.size)) (by omega)
            have HC5 : Hid (Calls _ _ _ _ _) := C5
            clear C5 hB4 HC4
            go_wp2_with fail
            refine HC5.out.mono ?_
            rintro r w5 ⟨hB5, ⟨-, rfl⟩ | ⟨hz, -⟩⟩
            case inr => exact absurd hz HCK.out
            have HB5 : Hid (Below w3.heap.size w3 w5) := HB4.out.trans (hB5.mono HB4.out.size)
            generalize ckNew ix tm (es.map Ent.says) = ce at *
            clear hB5 HC5 HB4 HCK
            have C6 := sameEntries_any a3 ea c3 ec fs es w5.heap.size w5 (HE3.out.below HB5.out).at ((HE.out.below ((HBW3.out.trans (HB5.out.mono HBW3.out.size)).mono hN)).mono (Nat.le_trans hN (Nat.le_trans HBW3.out.size HB5.out.size))) (Nat.le_refl _) (by have := HFL.out; omega)
            rw [HS3.out, decide_eq_true rfl] at C6
            have HC6 : Hid (Calls _ _ _ _ _) := C6
            clear C6
            go_wp2_with fail
            refine HC6.out.mono ?_
            rintro r w6 ⟨rfl, hB6⟩
            have HB6 : Hid (Below w3.heap.size w3 w6) := HB5.out.trans (hB6.mono HB5.out.size)
            clear hB6 HC6 HB5
            have C7 := over_any (HE3.out.below HB6.out).ov (by have := HFL.out; omega)
            have HC7 : Hid (Calls _ _ _ _ _) := C7
            clear C7
            go_wp2_with fail
            refine HC7.out.mono ?_
            rintro r w7 ⟨rfl, hO7⟩
            have HB7 : Hid (Below w.heap.size w w7) := (HBW3.out.trans (HB6.out.mono HBW3.out.size)).trans (hO7.below (Nat.le_trans HBW3.out.size HB6.out.size) (fun i hi => Nat.le_trans HBW.out.size (HE3.out.ov.lt hi).1))
            clear hO7 HC7 HB6
            go_wp2_with (first | (go_at_call 13; refine (num_any _ _).mono ?_; rintro r wz ⟨rfl, hz⟩; subst wz) | fail)
            go_ret
            exact ⟨rfl, HB7.out⟩
        · have hn2' : (20000 : Int) < n := by omega
          clear hn2
          go_wp2
          go_ret
          exact ⟨rfl, HBW.out⟩
end Go.Proofs.Yteekpfgjpdopmaa
namespace Go.Proofs.Yteekpfgjpdopmaa
open Go.ChangeShapes Go.WideShapes Go.ChangeAt Go.RowKit
set_option linter.unusedVariables false

set_option maxRecDepth 100000 in
/-- An entry that came in. -/
theorem inEntryB {H : Type} {enc : TypeId × Value → H} {W : World} {n : Nat} {cs : List Value} {x : DataW H × List MemPlace} (hlen : cs.length = 4) (hw : ∀ m ∈ x.1.weights Try.prog 40, m ≤ reachBytes) (h : DataW.trod enc Try.prog W 0 (fun _ => true) true n 40 cs = some x) :
    ∃ (t i k : Int) (a : Option Addr) (c : Nat) (l : List UInt8), cs = [.int .i64 t, .int .i64 i, .int .i64 k, .slice a l.length c] ∧ Sl W.heap.size W (.slice a l.length c) l ∧ l.length ≤ 140737488351232 := by
  obtain ⟨f0, f1, f2, f3, hu, ⟨o0, o1, o2, o3⟩, t0, t1, t2, t3⟩ := underE
  obtain ⟨xs, k, _, hxy, _, hxl, hf⟩ := DataW.trod_struct hu h
  obtain ⟨v0, v1, v2, v3, rfl⟩ := list4 hlen
  obtain ⟨y0, y1, y2, y3, rfl⟩ := list4 hxl
  have hw3 : ∀ m ∈ y3.1.weights Try.prog 35, m ≤ reachBytes := fun m hm => by
    refine hw m ?_
    rw [hxy]
    simp only [DataW.weights, hu]
    have e : (#[f0, f1, f2, f3] : Array Field).toList.map (·.type) = [3, 3, 3, 35] := by simp [t0, t1, t2, t3]
    rw [e]
    simp only [List.map_cons, List.map_nil, DataW.weightsEach, List.mem_append]
    exact .inr (.inr (.inr (.inl hm)))
  have g0 := hf 0 f0 rfl
  rw [o0, t0, cellsOfI] at g0
  have g1 := hf 1 f1 rfl
  rw [o1, t1, cellsOfI] at g1
  have g2 := hf 2 f2 rfl
  rw [o2, t2, cellsOfI] at g2
  have g3 := hf 3 f3 rfl
  rw [o3, t3, cellsOfB] at g3
  simp at g0 g1 g2 g3
  obtain ⟨z0, e0, -, -⟩ := DataW.trod_int Try.underlying3 g0
  simp at e0
  subst e0
  obtain ⟨z1, e1, -, -⟩ := DataW.trod_int Try.underlying3 g1
  simp at e1
  subst e1
  obtain ⟨z2, e2, -, -⟩ := DataW.trod_int Try.underlying3 g2
  simp at e2
  subst e2
  obtain ⟨a, c, l, rfl, hs, hn3⟩ := inBytesB hw3 g3
  exact ⟨z0, z1, z2, a, c, l, rfl, hs, hn3⟩

set_option maxRecDepth 100000 in
/-- Entries that came in. -/
theorem inEntsB {H : Type} {enc : TypeId × Value → H} {W : World} {n : Nat} {v : Value} {x : DataW H × List MemPlace} (hw : ∀ m ∈ x.1.weights Try.prog 34, m ≤ reachBytes) (h : DataW.trod enc Try.prog W 0 (fun _ => true) true n 34 [v] = some x) :
    ∃ (ea : Option Addr) (ec : Nat) (es : List Ent), v = .slice ea es.length ec ∧ EntsAt W.heap.size W ea es ∧ es.length ≤ ec ∧ ec ≤ maxLen ∧ ∀ e ∈ es, e.d.length ≤ 140737488351232 := by
  rcases Deep.open_slice Try.underlying34 h with ⟨hcs, _⟩ | ⟨x, l, c, m, n, E, Pl, hcs, _, hl, hm, hmm, hx, hcell⟩
  · simp at hcs
    exact ⟨none, 0, [], hcs, .inl rfl, Nat.le_refl _, by unfold maxLen; omega, fun e he => by simp at he⟩
  · simp at hcs
    by_cases hz : l = 0
    · subst hz; exact ⟨some x, c, [], hcs, .inl rfl, Nat.zero_le _, hm, fun e he => by simp at he⟩
    · have hml : l ≤ m := by rw [hmm]; split <;> omega
      obtain ⟨b, off, spot⟩ := x
      have hspot : spot = none := by
        obtain ⟨cs', hc', -⟩ := hcell 0 (by omega)
        rw [cellsOfE] at hc'
        obtain ⟨_, hlen, hc⟩ := World.cells?_some hc'
        have h00 := hc 0 (by omega)
        rw [List.getElem?_eq_getElem (by omega)] at h00
        simpa [Addr.add] using World.cell?_spot h00
      subst hspot
      have each : ∀ i, i < l → ∃ e : Ent, EntAt W.heap.size W b (off + i * 4) e ∧ e.d.length ≤ 140737488351232 := by
        intro i hi
        obtain ⟨cs', hc', ht⟩ := hcell i (by omega)
        rw [cellsOfE, Addr.add_lit] at hc'
        obtain ⟨_, hlen, hc⟩ := World.cells?_some hc'
        obtain ⟨et, ei, ek, eaa, ecc, ed, rfl, hs, hs4⟩ := inEntryB hlen (fun m hm => hw m (by
          rw [hx]
          simp only [DataW.weights, Try.underlying34]
          refine List.mem_cons_of_mem _ (List.mem_append.2 (.inl (mem_weightsAll (d := E i) ?_ hm)))
          exact List.mem_map_of_mem (List.mem_range.2 hi))) ht
        have c0 := hc 0 (by omega)
        have c1 := hc 1 (by omega)
        have c2 := hc 2 (by omega)
        have c3 := hc 3 (by omega)
        rw [Addr.add_lit] at c0 c1 c2 c3
        simp at c0 c1 c2 c3
        exact ⟨⟨et, ei, ek, eaa, ecc, ed⟩, ⟨c0, c1, c2, c3, hs⟩, hs4⟩
      have inh : Inhabited Ent := ⟨nilEnt⟩
      obtain ⟨D, hD⟩ := Deep.choose_lt each
      have hlt : b < W.heap.size := cell_lt (hD 0 (by omega)).1.1
      refine ⟨some ⟨b, off, none⟩, c, (List.range l).map D, by simpa using hcs, .inr ⟨b, off, rfl, hlt, fun i hi => ?_⟩, by simpa using hl, hm, fun e he => ?_⟩
      · simp at hi
        rw [show ((List.range l).map D).getD i nilEnt = D i by simp [hi]]
        exact (hD i hi).1
      · obtain ⟨i, hi, rfl⟩ := List.mem_map.1 he
        exact (hD i (List.mem_range.1 hi)).2
end Go.Proofs.Yteekpfgjpdopmaa
