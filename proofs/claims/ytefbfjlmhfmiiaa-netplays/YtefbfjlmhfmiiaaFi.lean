/-
  The chapter's example.
-/
import Derived.Test.YtefbfjlmhfmiiaaSp
import Derived.Lib.SlBytesConst
import Derived.Laws.IdiomStrings
namespace Go.Proofs.Ytefbfjlmhfmiiaa
open Go.RowKit
set_option linter.unusedVariables false

def fm1 : Ma := (1, 1, 2, [97], false)
def fm2 : Ma := (2, 1, 2, [97], false)
def fm3 : Ma := (1, 1, 2, [96], true)
theorem f_lnk {L : List Bool} (h : LA 3 L) : (newN 3 L).lnk 1 2 = true := by
  have := h 1 2 (by omega) (by omega)
  unfold PN.lnk lk
  show ((newN 3 L).two 1 2 && L.getD (8 * 1 + 2) false) = true
  rw [this]
  rfl
theorem f_send {L : List Bool} (h : LA 3 L) : (newN 3 L).snd 1 2 = true ∧ (newN 3 L).send 1 2 [97] = ⟨3, L, [fm1], 1⟩ := by
  unfold PN.snd PN.send
  rw [f_lnk h, if_pos rfl]
  exact ⟨rfl, rfl⟩
theorem f_send2 (L : List Bool) : (⟨3, L, [fm1], 1⟩ : PN).snd 2 2 = false ∧ (⟨3, L, [fm1], 1⟩ : PN).send 2 2 [] = ⟨3, L, [fm1], 1⟩ := ⟨rfl, rfl⟩
theorem f_copy (L : List Bool) : (⟨3, L, [fm1], 1⟩ : PN).cpy 0 = true ∧ (⟨3, L, [fm1], 1⟩ : PN).copy 0 = ⟨3, L, [fm1, fm2], 2⟩ := ⟨rfl, rfl⟩
theorem f_spoil (L : List Bool) : (⟨3, L, [fm1, fm2], 2⟩ : PN).spl 0 0 = true ∧ (⟨3, L, [fm1, fm2], 2⟩ : PN).spoil 0 0 = ⟨3, L, [fm3, fm2], 2⟩ := ⟨by kernel_rfl, by kernel_rfl⟩
theorem f_spoil2 (L : List Bool) : (⟨3, L, [fm3, fm2], 2⟩ : PN).spl 0 1 = false ∧ (⟨3, L, [fm3, fm2], 2⟩ : PN).spoil 0 1 = ⟨3, L, [fm3, fm2], 2⟩ := ⟨rfl, rfl⟩
theorem f_take (L : List Bool) : (⟨3, L, [fm3, fm2], 2⟩ : PN).at 0 = true ∧ (⟨3, L, [fm3, fm2], 2⟩ : PN).take 0 = ⟨3, L, [fm2], 2⟩ := ⟨rfl, rfl⟩

theorem sl_marked (w : World) (l : List UInt8) (c : Array Value) (z : Nat × Nat) (hl : l.length ≤ 1000) (hc : c.toList = l.map encB) : Sl (w.heap.size + 1) (w.alloc (.cells c 5 z)) (.slice (some ⟨w.heap.size, 0, none⟩) l.length l.length) l := by
  refine ⟨_, _, rfl, Nat.le_refl _, by unfold maxLen; omega, ?_⟩
  by_cases h0 : l = []
  · exact .inl h0
  refine .inr ⟨_, _, rfl, by omega, fun i hi => ?_⟩
  have h : (w.alloc (.cells c 5 z)).heap[w.heap.size]? = some (.cells c 5 z) := heap_alloc_new w _
  simp only [World.cell?, h, Nat.zero_add]
  have : c.toList[i]? = (l.map encB)[i]? := by rw [hc]
  rw [List.getElem?_map, List.getElem?_eq_getElem hi] at this
  simpa [hi] using this

set_option maxRecDepth 100000 in
set_option maxHeartbeats 8000000 in
theorem first_any (w : World) : Calls Try.prog 7 #[] w fun e w' => e = .returned (.bool true) ∧ Below w.heap.size w w' := by
  go_enter Try.func7, Try.ntmps7
  have hcv := fun (w : World) (C : Array Value) (n c : Nat) => Lib.run_convert_bytes_const (P := Try.prog) w 30 5 C n c Try.underlying30 Try.underlying5
  go_wp2_with fail
  refine (New_any 3 (by omega) (by omega) w).mono ?_
  rintro e w1 ⟨b, S, L, rfl, hNt, hLA, hB1⟩
  have HN1 : Hid (Nt w.heap.size S w1 b (newN 3 L)) := hNt
  have HLA : Hid (LA 3 L) := hLA
  have HB1 : Hid (Below w.heap.size w w1) := hB1
  have hz1 := hB1.size
  clear hNt hLA hB1
  go_wp2_with fail
  clear hcv
  obtain ⟨W1, hW1⟩ : ∃ W1, w1.alloc (.cells #[.int .u8 97] 5 (1, 2)) = W1 := ⟨_, rfl⟩
  have hBa : Below w1.heap.size w1 W1 := by rw [← hW1]; exact (Below.refl _ w1).alloc (Nat.le_refl _) _
  have hsl : Sl W1.heap.size W1 (.slice (some ⟨w1.heap.size, 0, none⟩) 1 1) [97] := by
    rw [← hW1]
    have := sl_marked w1 [97] #[.int .u8 97] (1, 2) (by simp) rfl
    rw [World.size_alloc]
    exact this
  have hNa := HN1.out.below hBa
  have hza : w.heap.size ≤ W1.heap.size := Nat.le_trans hz1 hBa.size
  have hsep : ∀ w', Out (fun i => i = b) W1 w' → Sl w'.heap.size w' (.slice (some ⟨w1.heap.size, 0, none⟩) ([97] : List UInt8).length 1) [97] := fun w' hO => by
    have hbb := HN1.out.inn _ HN1.out.Sb
    obtain ⟨a, c, e, q1, q2, q3⟩ := hsl
    refine ⟨some ⟨w1.heap.size, 0, none⟩, 1, rfl, by simp, by unfold maxLen; omega, .inr ⟨w1.heap.size, 0, rfl, ?_, fun i hi => ?_⟩⟩
    · have := hO.size; have h2 : w1.heap.size < W1.heap.size := by rw [← hW1]; simp
      omega
    · obtain ⟨b9, o9, e9, -, hc9⟩ := q3.resolve_left (by simp)
      cases e
      cases e9
      have h2 : w1.heap.size < W1.heap.size := by rw [← hW1]; simp
      have h3 : w'.cell? ⟨w1.heap.size, 0 + i, none⟩ = W1.cell? ⟨w1.heap.size, 0 + i, none⟩ := by
        simp only [World.cell?]
        rw [hO.block w1.heap.size h2 (fun e => by have e' : w1.heap.size = b := e; omega)]
      rw [h3]
      exact hc9 i hi
  have hS1 := Send_any hNa hza 1 2 (some ⟨w1.heap.size, 0, none⟩) [97] 1 (by simp) hsep (by simp [newN])
  rw [(f_send HLA.out).1, (f_send HLA.out).2] at hS1
  have HS1 : Hid (Calls _ _ _ _ _) := hS1
  have HBA : Hid (Below w.heap.size w W1) := HB1.out.trans (hBa.mono hz1)
  rw [hW1]
  clear hsl hNa hsep hS1 HN1 HLA HB1 hW1 hBa hz1
  refine HS1.out.mono ?_
  rintro e w2 ⟨rfl, hT⟩
  have HB2 : Hid (Below w.heap.size w w2) := HBA.out.trans (hT.bel hza)
  have HN2 : Hid (Nt _ _ _ _ _) := hT.q
  have hz2 := HB2.out.size
  generalize grew S W1 w2 = S2 at *
  clear hT HS1 HBA hza
  go_wp2_with fail
  have hS2 := Send_any HN2.out hz2 2 2 none [] 0 (by simp) (fun w' _ => Sl.nil _ _) (by simp)
  rw [(f_send2 L).1, (f_send2 L).2] at hS2
  refine hS2.mono ?_
  rintro e w3 ⟨rfl, hT⟩
  have HB3 : Hid (Below w.heap.size w w3) := HB2.out.trans (hT.bel hz2)
  have HN3 : Hid (Nt _ _ _ _ _) := hT.q
  have hz3 := HB3.out.size
  generalize grew S2 w2 w3 = S3 at *
  clear hT hS2 HN2 HB2 hz2
  go_wp2_with fail
  have hS3 := Copy_any HN3.out hz3 0 (by simp)
  rw [(f_copy L).1, (f_copy L).2] at hS3
  refine hS3.mono ?_
  rintro e w4 ⟨rfl, hT⟩
  have HB4 : Hid (Below w.heap.size w w4) := HB3.out.trans (hT.bel hz3)
  have HN4 : Hid (Nt _ _ _ _ _) := hT.q
  have hz4 := HB4.out.size
  generalize grew S3 w3 w4 = S4 at *
  clear hT hS3 HN3 HB3 hz3
  go_wp2_with fail
  have hS4 := Spoil_any HN4.out hz4 0 0 (by omega)
  rw [(f_spoil L).1, (f_spoil L).2] at hS4
  refine hS4.mono ?_
  rintro e w5 ⟨rfl, hT⟩
  have HB5 : Hid (Below w.heap.size w w5) := HB4.out.trans (hT.bel hz4)
  have HN5 : Hid (Nt _ _ _ _ _) := hT.q
  have hz5 := HB5.out.size
  generalize grew S4 w4 w5 = S5 at *
  clear hT hS4 HN4 HB4 hz4
  go_wp2_with fail
  have hS5 := Spoil_any HN5.out hz5 0 1 (by omega)
  rw [(f_spoil2 L).1, (f_spoil2 L).2] at hS5
  refine hS5.mono ?_
  rintro e w6 ⟨rfl, hT⟩
  have HB6 : Hid (Below w.heap.size w w6) := HB5.out.trans (hT.bel hz5)
  have HN6 : Hid (Nt _ _ _ _ _) := hT.q
  have hz6 := HB6.out.size
  generalize grew S5 w5 w6 = S6 at *
  clear hT hS5 HN5 HB5 hz5
  go_wp2_with fail
  refine (Take_any HN6.out hz6 0).mono ?_
  rintro r w7 (⟨ha, -, -⟩ | ⟨-, e, rfl, hsy, hT, hO, -⟩)
  · exact absurd (f_take L).1 (by rw [ha]; simp)
  rw [(f_take L).2] at hT
  have HB7 : Hid (Below w.heap.size w w7) := HB6.out.trans (hT.bel hz6)
  have HN7 : Hid (Nt _ _ _ _ _) := hT.q
  have hz7 := HB7.out.size
  generalize grew S6 w6 w7 = S7 at *
  clear hT HN6 HB6 hz6
  obtain ⟨en, ef, et, ea, ec, ed, es⟩ := e
  have hsy2 : (en, ef, et, ed, es) = fm3 := hsy
  simp only [fm3, Prod.mk.injEq] at hsy2
  obtain ⟨rfl, rfl, rfl, rfl, rfl⟩ := hsy2
  obtain ⟨D, u, hDa, -, -, hDw⟩ := Ow.can (a := ea) (cap := ec) hO 0 (by simp)
  subst hDa
  have hDc : ∀ W, Below w7.heap.size w7 W → W.cell? ⟨D, 0, none⟩ = some (.int .u8 96) := fun W hW => by
    have h1 := hO.sl (Nat.le_refl _)
    obtain ⟨a9, c9, e9, -, -, h9⟩ := h1
    unfold Ml.x at e9
    cases e9
    obtain ⟨b9, o9, ea9, -, hc9⟩ := h9.resolve_left (by simp)
    cases ea9
    have := hc9 0 (by simp)
    exact (hW.cell (p := ⟨D, 0, none⟩) hDw).trans this
  obtain ⟨W8, hW8⟩ : ∃ W8, w7.alloc (.cells #[.int .i64 1, .int .i64 1, .int .i64 2, .slice (some ⟨D, 0, none⟩) 1 ec, .bool true] 41) = W8 := ⟨_, rfl⟩
  have hB8 : Below w7.heap.size w7 W8 := by rw [← hW8]; exact (Below.refl _ w7).alloc (Nat.le_refl _) _
  have hx8 : W8.heap[w7.heap.size]? = some (.cells #[.int .i64 1, .int .i64 1, .int .i64 2, .slice (some ⟨D, 0, none⟩) 1 ec, .bool true] 41 (0, 0)) := by rw [← hW8]; exact heap_alloc_new w7 _
  have hcv : (convert 30 9 (.slice (some ⟨D, 0, none⟩) 1 ec)).run Try.prog W8 = .ok (.string ⟨#[96]⟩) W8 := by
    have := run_convert_bytes_back (P := Try.prog) W8 30 9 5 ⟨D, 0, none⟩ ec [96] Try.underlying30 Try.underlying5 Try.underlying9 (fun j hj => by
      have : j = 0 := by simpa using hj
      subst this
      rw [Addr.add_lit]
      exact hDc W8 hB8)
    exact this
  have HLE := Len_any (HN7.out.below hB8)
  have HLN : Hid (Calls Try.prog 14 #[.pointer (some ⟨b, 0, none⟩)] W8 fun e w' => e = .returned (.int .i64 1) ∧ w' = W8) := HLE
  have HFI : Hid (Below w.heap.size w W8) := HB7.out.trans (hB8.mono hz7)
  obtain ⟨⟨x0, x1, x2, x3, x4⟩, -⟩ := cells5 hx8
  clear HLE HN7 HB7 hz7 hsy hO hDw hDc hx8 hB8
  go_wp2_with fail
  refine HLN.out.mono ?_
  rintro e w9 ⟨rfl, hw⟩
  subst w9
  go_wp2
  go_ret
  exact ⟨rfl, HFI.out⟩
end Go.Proofs.Ytefbfjlmhfmiiaa
