/-
  The chapter's example.
-/
import Derived.Test.YteekpfgjpdopmaaTy
import Derived.Test.YteekpfgjpdopmaaNx
import Derived.Test.YteekpfgjpdopmaaHi
import Derived.Test.YteekpfgjpdopmaaNw
import Derived.Lib.SlBytesConst
namespace Go.Proofs.Yteekpfgjpdopmaa
open Go.RowKit
set_option linter.unusedVariables false

def E0 : List En := [(1, 3, 1, [97]), (2, 4, 1, []), (2, 5, 1, [])]
def F0 : PL := ⟨2, 1, E0, 5, 5, 3, 2, 2⟩
def F1 : PL := ⟨2, 1, E0, 5, 5, 3, 3, 2⟩
def F2 : PL := ⟨2, 1, E0, 5, 5, 3, 3, 3⟩
def F3 : PL := ⟨2, 1, [(1, 3, 1, [97]), (2, 4, 1, []), (3, 5, 0, [])], 4, 4, 5, 3, 3⟩
theorem f_new : ckNew 2 1 E0 = 0 := by decide
theorem f_newP : newP 2 1 3 E0 = F0 := by kernel_rfl
theorem f_next : nxE F0 9 = [(1, 3, 1, [97])] ∧ nxP F0 9 = F1 := ⟨by kernel_rfl, by kernel_rfl⟩
theorem f_app4 : adP F1 4 = F1 ∧ decide (F1.a < 4 ∧ 4 ≤ F1.g) = false := ⟨by kernel_rfl, by kernel_rfl⟩
theorem f_app3 : adP F1 3 = F2 ∧ decide (F1.a < 3 ∧ 3 ≤ F1.g) = true := ⟨by kernel_rfl, by kernel_rfl⟩
theorem f_try1 : trY F2 4 1 [] = false ∧ trA F2 4 1 [] = 0 ∧ trL F2 4 1 9 [] = F2 := ⟨by kernel_rfl, by kernel_rfl, by kernel_rfl⟩
theorem f_try2 : trY F2 4 2 [(3, 5, 0, [])] = true ∧ trA F2 4 2 [(3, 5, 0, [])] = 5 ∧ trL F2 4 2 9 [(3, 5, 0, [])] = F3 := ⟨by kernel_rfl, by kernel_rfl, by kernel_rfl⟩
theorem f_hint : hint F3 5 1 = 3 := by kernel_rfl

theorem sl_marked (w : World) (l : List UInt8) (c : Array Value) (z : Nat × Nat) (hl : l.length ≤ 1000) (hc : c.toList = l.map encB) : Sl (w.heap.size + 1) (w.alloc (.cells c 5 z)) (.slice (some ⟨w.heap.size, 0, none⟩) l.length l.length) l := by
  refine ⟨_, _, rfl, Nat.le_refl _, by unfold maxLen; omega, ?_⟩
  by_cases h0 : l = []
  · exact .inl h0
  refine .inr ⟨_, _, rfl, by omega, fun i hi => ?_⟩
  have h : (w.alloc (.cells c 5 z)).heap[w.heap.size]? = some (.cells c 5 z) := heap_alloc_new w _
  simp only [World.cell?, h, Nat.zero_add]
  have : c.toList[i]? = (l.map encB)[i]? := by rw [hc]
  rw [List.getElem?_map, List.getElem?_eq_getElem hi] at this
  simpa [hi] using this

/-- Entries that are written out. -/
theorem ents_lit (w : World) (es : List Ent) (c : Array Value) (hc : c.toList = entCells es) (hs : ∀ e ∈ es, Sl w.heap.size w e.x e.d) : EntsAt (w.heap.size + 1) (w.alloc (.cells c 40)) (some ⟨w.heap.size, 0, none⟩) es := by
  refine .inr ⟨_, _, rfl, by omega, fun i hi => ?_⟩
  have hh : (w.alloc (.cells c 40)).heap[w.heap.size]? = some (.cells c 40) := heap_alloc_new w _
  obtain ⟨a1, a2, a3, a4⟩ := entCells_at es i hi
  have hmem : es.getD i nilEnt ∈ es := by rw [List.getD_eq_getElem?_getD, List.getElem?_eq_getElem hi]; exact List.getElem_mem hi
  have hcell : ∀ o v, (entCells es)[o]? = some v → (w.alloc (.cells c 40)).cell? ⟨w.heap.size, o, none⟩ = some v := fun o v hv => by
    simp only [World.cell?, hh]
    rw [← hc] at hv
    simpa using hv
  rw [Nat.zero_add]
  exact ⟨hcell _ _ a1, hcell _ _ a2, hcell _ _ a3, hcell _ _ a4, ((hs _ hmem).below ((Below.refl _ w).alloc (Nat.le_refl _) _)).mono (by omega)⟩
theorem EntsAt.sta {M N : Nat} {S : Nat → Prop} {w : World} {va : Option Addr} {es : List Ent} (h : EntsAt M w va es) (hM : M ≤ w.heap.size) (hS : ∀ i, S i → ¬ i < M) : Sta S w va es := fun w' hw =>
  ⟨M, Nat.le_trans hM hw.size, h.below ⟨hw.os, hw.tape, hw.output, hw.size, fun i hi => hw.block i (by omega) (fun hs => hS i hs hi)⟩⟩
theorem ents_sta {M : Nat} {S : Nat → Prop} {w : World} {b off : Nat} {es : List Ent} (h : EntsAt M w (some ⟨b, off, none⟩) es) (hb : ¬ S b) (hw : b < w.heap.size) (hd : ∀ e ∈ es, ∀ w', Out S w w' → Sl w'.heap.size w' e.x e.d) : Sta S w (some ⟨b, off, none⟩) es := fun w' hO => by
  refine ⟨w'.heap.size, Nat.le_refl _, ?_⟩
  rcases h with h | ⟨b', off', ha, hM, hc⟩
  · exact .inl h
  · cases ha
    refine .inr ⟨b, off, rfl, Nat.lt_of_lt_of_le hw hO.size, fun i hi => ?_⟩
    have hmem : es.getD i nilEnt ∈ es := by rw [List.getD_eq_getElem?_getD, List.getElem?_eq_getElem hi]; exact List.getElem_mem hi
    have hcell : ∀ o, w'.cell? ⟨b, o, none⟩ = w.cell? ⟨b, o, none⟩ := fun o => by simp only [World.cell?, hO.block b hw hb]
    obtain ⟨a1, a2, a3, a4, -⟩ := hc i hi
    exact ⟨(hcell _).trans a1, (hcell _).trans a2, (hcell _).trans a3, (hcell _).trans a4, hd _ hmem w' hO⟩
theorem Sta.nil (S : Nat → Prop) (w : World) : Sta S w none [] := fun w' _ => ⟨0, Nat.zero_le _, .inl rfl⟩

def es0 (h : Nat) : List Ent := [⟨1, 3, 1, some ⟨h, 0, none⟩, 1, [97]⟩, ⟨2, 4, 1, none, 0, []⟩, ⟨2, 5, 1, none, 0, []⟩]

theorem new0 (w : World) (M : Nat) (hE : EntsAt M w (some ⟨M - 1, 0, none⟩) (es0 (M - 2))) (hM : M ≤ w.heap.size) :
    Calls Try.prog 11 #[.int .i64 2, .int .i64 1, .int .i64 3, .slice (some ⟨M - 1, 0, none⟩) 3 3] w fun e w' => ∃ b S, e = .returned (.tuple #[.pointer (some ⟨b, 0, none⟩), .int .i64 0]) ∧ Lg w.heap.size S w' b F0 ∧ Below w.heap.size w w' := by
  have := New_any 2 1 3 (some ⟨M - 1, 0, none⟩) 3 (es0 (M - 2)) M w hE hM f_new
  have e : newP 2 1 3 ((es0 (M - 2)).map Ent.says) = F0 := f_newP
  rw [e] at this
  exact this

set_option maxRecDepth 100000 in
set_option maxHeartbeats 8000000 in
theorem first_any (w : World) : Calls Try.prog 9 #[] w fun e w' => e = .returned (.bool true) ∧ Below w.heap.size w w' := by
  go_enter Try.func9, Try.ntmps9
  have hcv := fun (w : World) (C : Array Value) (n c : Nat) => Lib.run_convert_bytes_const (P := Try.prog) w 35 5 C n c Try.underlying35 Try.underlying5
  go_wp2_with fail
  clear hcv
  have hsl : Sl (w.alloc (.cells #[.int .u8 97] 5 (1, 2))).heap.size (w.alloc (.cells #[.int .u8 97] 5 (1, 2))) (.slice (some ⟨w.heap.size, 0, none⟩) 1 1) [97] := by
    have := sl_marked w [97] #[.int .u8 97] (1, 2) (by simp) rfl
    rw [World.size_alloc]
    exact this
  have hE := ents_lit (w.alloc (.cells #[.int .u8 97] 5 (1, 2))) (es0 w.heap.size) #[.int .i64 1, .int .i64 3, .int .i64 1, .slice (some ⟨w.heap.size, 0, none⟩) 1 1, .int .i64 2, .int .i64 4, .int .i64 1, .slice none 0 0, .int .i64 2, .int .i64 5, .int .i64 1, .slice none 0 0] rfl (by
    intro e he
    simp only [es0, List.mem_cons, List.not_mem_nil, or_false] at he
    rcases he with rfl | rfl | rfl
    · exact hsl
    · exact Sl.nil _ _
    · exact Sl.nil _ _)
  rw [World.size_alloc] at hE
  obtain ⟨W0, hW0⟩ : ∃ W0, (w.alloc (.cells #[.int .u8 97] 5 (1, 2))).alloc (.cells #[.int .i64 1, .int .i64 3, .int .i64 1, .slice (some ⟨w.heap.size, 0, none⟩) 1 1, .int .i64 2, .int .i64 4, .int .i64 1, .slice none 0 0, .int .i64 2, .int .i64 5, .int .i64 1, .slice none 0 0] 40) = W0 := ⟨_, rfl⟩
  have HB0 : Hid (Below w.heap.size w W0) := by show Below _ _ _; rw [← hW0]; exact ((Below.refl _ w).alloc (Nat.le_refl _) _).alloc (by simp) _
  have hz0 : w.heap.size + 1 + 1 = W0.heap.size := by rw [← hW0]; simp
  rw [hW0] at hE ⊢
  have hN := new0 W0 (w.heap.size + 1 + 1) hE (by omega)
  simp only [Nat.add_sub_cancel] at hN
  clear hE hsl hW0 hz0
  refine hN.mono ?_
  rintro e w1 ⟨b, S, rfl, hL, hB1⟩
  have HB1 : Hid (Below w.heap.size w w1) := HB0.out.trans (hB1.mono HB0.out.size)
  have HL : Hid (Lg W0.heap.size S w1 b F0) := hL
  have HZ : Hid (W0.heap.size ≤ w1.heap.size) := hB1.size
  have HW : Hid (w.heap.size ≤ W0.heap.size) := HB0.out.size
  clear hL hB1 hN HB0
  go_wp2_with fail
  refine (num_any _ _).mono ?_
  rintro e w' ⟨rfl, hw⟩
  subst w'
  go_wp2_with fail
  refine (Next_any HL.out HZ.out 9).mono ?_
  rintro e w2 ⟨v, fs, rfl, ho, hsy, hK⟩
  rw [f_next.1] at hsy
  rw [f_next.2] at hK
  have hfl : fs.length = 1 := by have := congrArg List.length hsy; simpa using this
  obtain ⟨fa, fc, rfl, -, -⟩ := ho.shape
  rw [hfl]
  have HK2 : Hid (LK W0.heap.size S w1 w2 b F1) := hK
  have hN2 : W0.heap.size ≤ w2.heap.size := Nat.le_trans HZ.out hK.out.size
  clear ho hsy hK hfl HL
  go_wp2_with fail
  refine (Applied_any HK2.out.q hN2 4).mono ?_
  rintro e w3 ⟨rfl, hK⟩
  rw [f_app4.1] at hK
  rw [f_app4.2]
  have HK3 : Hid (LK W0.heap.size S w1 w3 b F1) := HK2.out.trans hK
  have hN3 : W0.heap.size ≤ w3.heap.size := Nat.le_trans hN2 hK.out.size
  clear hK HK2 hN2
  go_wp2_with fail
  refine (Applied_any HK3.out.q hN3 3).mono ?_
  rintro e w4 ⟨rfl, hK⟩
  rw [f_app3.1] at hK
  rw [f_app3.2]
  have HK4 : Hid (LK W0.heap.size S w1 w4 b F2) := HK3.out.trans hK
  have hN4 : W0.heap.size ≤ w4.heap.size := Nat.le_trans hN3 hK.out.size
  clear hK HK3 hN3
  go_wp2_with fail
  refine (Try_any HK4.out.q hN4 4 1 9 none 0 [] (Sta.nil _ _) (by simp) (by simp) (by unfold maxLen; omega)).mono ?_
  rintro e w5 ⟨rfl, hT⟩
  simp only [List.map_nil] at hT ⊢
  rw [f_try1.2.2] at hT
  rw [f_try1.1, f_try1.2.1]
  have HT5 : Hid (LTh W0.heap.size S w1 w5 b F2) := (HK4.out.th HZ.out).trans ⟨by
    have h1 := hT.q.at_
    obtain ⟨v, es, q1, q2, q3, q4, q5⟩ := h1
    exact ⟨⟨v, es, q1, q2, q3, fun g hg => (q4 g hg).imp .inl id, fun e he g hg => (q5 e he g hg).imp .inl id⟩, hT.q.ok, .inl (.inl HK4.out.q.Sb), fun i hi => hi.elim (fun h' => h'.elim (fun h2 => Nat.lt_of_lt_of_le (HK4.out.q.inn i h2) hT.out.size) (fun h2 => Nat.lt_of_lt_of_le h2.2 hT.out.size)) (fun h' => h'.2), fun i hi => hi.elim (fun h' => h'.elim (fun h2 => HK4.out.q.fr i h2) (fun h2 => Nat.le_trans HZ.out h2.1)) (fun h' => Nat.le_trans hN4 h'.1)⟩, hT.out.mono (fun i hi => .inl hi)⟩
  have hN5 : W0.heap.size ≤ w5.heap.size := Nat.le_trans hN4 hT.out.size
  clear hT HK4 hN4
  go_wp2_with fail
  have hE6 := ents_lit w5 [⟨3, 5, 0, none, 0, []⟩] #[.int .i64 3, .int .i64 5, .int .i64 0, .slice none 0 0] rfl (by
    intro e he
    obtain rfl := List.mem_singleton.1 he
    exact Sl.nil _ _)
  have hL6 := HT5.out.q.below ((Below.refl _ w5).alloc (Nat.le_refl _) (.cells #[.int .i64 3, .int .i64 5, .int .i64 0, .slice none 0 0] 40))
  have hS6 := ents_sta (S := grew S w1 w5) hE6 (fun h => by have := HT5.out.q.inn _ h; omega) (by simp) (fun e he w' _ => by obtain rfl := List.mem_singleton.1 he; exact Sl.nil _ _)
  have ht := Try_any hL6 (by simp; omega) 4 2 9 _ 1 [⟨3, 5, 0, none, 0, []⟩] hS6 (by simp) (by simp) (by unfold maxLen; omega)
  have esy : ([⟨3, 5, 0, none, 0, []⟩] : List Ent).map Ent.says = [(3, 5, 0, [])] := rfl
  rw [esy, f_try2.1, f_try2.2.1, f_try2.2.2] at ht
  refine ht.mono ?_
  rintro e w7 ⟨rfl, hT⟩
  have HL7 : Hid (Lg W0.heap.size (grew (grew S w1 w5) (w5.alloc (.cells #[.int .i64 3, .int .i64 5, .int .i64 0, .slice none 0 0] 40)) w7) w7 b F3) := hT.q
  have HB7 : Hid (Below w.heap.size w w7) := HB1.out.trans (((HT5.out.bel HZ.out).mono HW.out).trans ((((Below.refl _ w5).alloc (Nat.le_refl _) _).mono (Nat.le_trans HW.out hN5)).trans ((hT.bel (by simp; omega)).mono HW.out)))
  clear hT ht hE6 hL6 hS6 HT5 hN5 esy
  go_wp2_with fail
  obtain ⟨W8, hW8⟩ : ∃ W8, w7.alloc (.cells #[.int .i64 4, .int .i64 4, .int .i64 5, .int .i64 3, .int .i64 3] 55) = W8 := ⟨_, rfl⟩
  have HB8 : Hid (Below w7.heap.size w7 W8) := by show Below _ _ _; rw [← hW8]; exact (Below.refl _ w7).alloc (Nat.le_refl _) _
  have HX8 : Hid (∀ X, Below W8.heap.size W8 X → (X.cell? ⟨w7.heap.size, 0, none⟩ = some (.int .i64 4) ∧ X.cell? ⟨w7.heap.size, 1, none⟩ = some (.int .i64 4) ∧ X.cell? ⟨w7.heap.size, 2, none⟩ = some (.int .i64 5) ∧ X.cell? ⟨w7.heap.size, 3, none⟩ = some (.int .i64 3) ∧ X.cell? ⟨w7.heap.size, 4, none⟩ = some (.int .i64 3))) := fun X hX => (cells5 ((hX.block _ (by rw [← hW8]; simp)).trans (by rw [← hW8]; exact heap_alloc_new w7 _))).1
  have HMK : Hid (∀ X, Below W8.heap.size W8 X → Calls Try.prog 25 #[.pointer (some ⟨b, 0, none⟩)] X fun e w' => e = .returned (.agg #[.int .i64 4, .int .i64 4, .int .i64 5, .int .i64 3, .int .i64 3]) ∧ Below X.heap.size X w') := fun X hX => Marks_any (HL7.out.below (HB8.out.trans (hX.mono HB8.out.size)))
  have HHI : Hid (∀ X, Below W8.heap.size W8 X → Calls Try.prog 40 #[.pointer (some ⟨b, 0, none⟩), .int .i64 5, .int .i64 1] X fun e w' => e = .returned (.int .i64 3) ∧ Below X.heap.size X w') := fun X hX => by
    have := Hint_any (HL7.out.below (HB8.out.trans (hX.mono HB8.out.size))) 5 1
    rw [f_hint] at this
    exact this
  have HBE : Hid (∀ X, Below W8.heap.size W8 X → Below w.heap.size w X) := fun X hX => HB7.out.trans (HB8.out.trans (hX.mono HB8.out.size) |>.mono HB7.out.size)
  obtain ⟨x0, x1, x2, x3, x4⟩ := HX8.out W8 (Below.refl _ _)
  rw [hW8]
  clear hW8 HL7 HB7 HB8 HB1 HZ HW
  go_region_held3 (fun w' => w'.cell? ⟨w7.heap.size, 0, none⟩ = some (.int .i64 4) ∧ w'.cell? ⟨w7.heap.size, 1, none⟩ = some (.int .i64 4) ∧ w'.cell? ⟨w7.heap.size, 2, none⟩ = some (.int .i64 5) ∧ w'.cell? ⟨w7.heap.size, 3, none⟩ = some (.int .i64 3) ∧ w'.cell? ⟨w7.heap.size, 4, none⟩ = some (.int .i64 3)) (go_keep)
    (first
      | (go_at_call 25; refine (HMK.out W8.drew (Below.refl _ W8).drew).mono ?_; rintro r w9 ⟨rfl, hB9'⟩; have hB9 : Below W8.heap.size W8 w9 := ⟨hB9'.os, hB9'.tape, hB9'.output, hB9'.size, hB9'.block⟩; obtain ⟨y0, y1, y2, y3, y4⟩ := HX8.out w9 hB9; clear hB9')
      | (go_at_call 40; refine (HHI.out w9 hB9).mono ?_; rintro r w10 ⟨rfl, hB10'⟩; have hB10 : Below W8.heap.size W8 w10 := hB9.trans (hB10'.mono hB9.size); obtain ⟨z0, z1, z2, z3, z4⟩ := HX8.out w10 hB10; clear hB10')
      | fail)
  go_wp2
  go_ret
  exact ⟨rfl, HBE.out _ hB10⟩
end Go.Proofs.Yteekpfgjpdopmaa
