/-
  GetM3.
-/
import Derived.Test.YtfnnbfgfmbiababJ29
import Derived.Test.YtfnnbfgfmbiababJ39
import Derived.Test.YtfnnbfgfmbiababJ31
/-
  A message of kind 3 read: the code's Get.
-/
namespace Go.Proofs.Ytfnnbfgfmbiabab
open Go.RowKit Go.Shelf

/-- Entries of numbers. -/
def entsOf (L : List (Nat × Nat × Nat × List UInt8)) : List Ent := L.map fun x => Ent.of x none 0
theorem entsOf_says (L : List (Nat × Nat × Nat × List UInt8)) : (entsOf L).map Ent.says = saysN L := by
  simp [entsOf, saysN, Ent.of, Ent.says, Function.comp_def]

theorem ck_says {e f : Ent} (h : e.says = f.says) : e.ck = f.ck := by
  unfold Ent.says at h
  simp only [Prod.mk.injEq] at h
  unfold Ent.ck
  rw [h.1, h.2.1, h.2.2.1, h.2.2.2]
theorem firstErr_says {es fs : List Ent} (h : es.map Ent.says = fs.map Ent.says) : firstErr es = firstErr fs := by
  induction es generalizing fs with
  | nil => cases fs with
    | nil => rfl
    | cons f r => simp at h
  | cons e r ih => cases fs with
    | nil => simp at h
    | cons f q =>
      simp only [List.map_cons, List.cons.injEq] at h
      simp only [firstErr, ck_says h.1, ih h.2]
theorem goes_says {tm : Int} {es fs : List Ent} (h : es.map Ent.says = fs.map Ent.says) : ∀ ix lt, goes tm ix lt es = goes tm ix lt fs := by
  induction es generalizing fs with
  | nil => cases fs with
    | nil => intros; rfl
    | cons f r => simp at h
  | cons e r ih => cases fs with
    | nil => simp at h
    | cons f q =>
      simp only [List.map_cons, List.cons.injEq] at h
      have h1 := h.1
      unfold Ent.says at h1
      simp only [Prod.mk.injEq] at h1
      intro ix lt
      simp only [goes, h1.1, h1.2.1, ih h.2]
theorem ckM3_says {fr to tm ix lt cm hi cx : Int} {rj : Bool} {es fs : List Ent} {si st : Int} {sn : Nat} (h : es.map Ent.says = fs.map Ent.says) : ckM3 fr to tm ix lt cm hi cx rj es si st sn = ckM3 fr to tm ix lt cm hi cx rj fs si st sn := by
  have hl : es.length = fs.length := by have := congrArg List.length h; simpa using this
  unfold ckM3 ckApp
  rw [firstErr_says h, goes_says h, hl]

/-- Entries of a call's own, as a walk reads them. -/
theorem EntsOw.at {N : Nat} {w : World} {va : Option Addr} {vc : Nat} {es : List Ent} (h : EntsOw N w (.slice va es.length vc) es) : EntsAt w.heap.size w va es := by
  by_cases hz : es = []
  · exact .inl hz
  · have hp := List.length_pos_iff.2 hz
    rcases h.row.2 with ⟨_, h0⟩ | ⟨g, cap, cur, hv, hg, hh, h1, h2, h3, h4⟩
    · omega
    · cases hv
      refine .inr ⟨g, 0, rfl, (Array.getElem?_eq_some_iff.1 hh).1, fun i hi => ?_⟩
      have hcell : ∀ o v, o < es.length * 4 → (entCells es)[o]? = some v → w.cell? ⟨g, o, none⟩ = some v := fun o v ho hv => by
        simp only [World.cell?, hh]
        have : (cur.toList.take (es.length * 4))[o]? = some v := by rw [h4]; exact hv
        rw [List.getElem?_take, if_pos ho] at this
        simpa using this
      have hent : ∀ (fs : List Ent) (i : Nat), i < fs.length → (entCells fs)[i * 4]? = some (.int .i64 (fs.getD i nilEnt).t) ∧ (entCells fs)[i * 4 + 1]? = some (.int .i64 (fs.getD i nilEnt).i) ∧ (entCells fs)[i * 4 + 2]? = some (.int .i64 (fs.getD i nilEnt).k) ∧ (entCells fs)[i * 4 + 3]? = some (fs.getD i nilEnt).x := by
        intro fs
        induction fs with
        | nil => intro i hi; simp at hi
        | cons f r ih =>
          intro i hi
          cases i with
          | zero => simp [entCells]
          | succ i =>
            obtain ⟨a1, a2, a3, a4⟩ := ih i (by simpa using hi)
            have e1 : (i + 1) * 4 = i * 4 + 1 + 1 + 1 + 1 := by omega
            rw [e1]
            simp only [entCells, List.cons_append, List.nil_append, List.getElem?_cons_succ, List.getD_cons_succ]
            exact ⟨a1, a2, a3, a4⟩
      obtain ⟨a1, a2, a3, a4⟩ := hent es i hi
      have hmem : es.getD i nilEnt ∈ es := by rw [List.getD_eq_getElem?_getD, List.getElem?_eq_getElem hi]; exact List.getElem_mem hi
      rw [Nat.zero_add]
      exact ⟨hcell _ _ (by omega) a1, hcell _ _ (by omega) a2, hcell _ _ (by omega) a3, hcell _ _ (by omega) a4, (h.dat _ hmem).sl (Nat.le_refl _)⟩

/-- What Get answers of a message of kind 3. -/
def Got3 (w : World) (fr to tm n1 n2 n3 : Nat) (L : List (Nat × Nat × Nat × List UInt8)) (E : Nat) (r : Ending) (w' : World) : Prop :=
  ∃ va vc es, r = .returned (.tuple #[if E = 0 then .agg #[.int .i64 3, .int .i64 (fr : Int), .int .i64 (to : Int), .int .i64 (tm : Int), .int .i64 (n1 : Int), .int .i64 (n2 : Int), .int .i64 (n3 : Int), .int .i64 0, .int .i64 0, .bool false, .slice va es.length vc, .int .i64 0, .int .i64 0, .slice none 0 0] else .agg #[.int .i64 0, .int .i64 0, .int .i64 0, .int .i64 0, .int .i64 0, .int .i64 0, .int .i64 0, .int .i64 0, .int .i64 0, .bool false, .slice none 0 0, .int .i64 0, .int .i64 0, .slice none 0 0], .int .i64 (E : Int)]) ∧ EntsOw w.heap.size w' (.slice va es.length vc) es ∧ (E = 0 → es.map Ent.says = saysN L)

set_option maxRecDepth 100000 in
set_option maxHeartbeats 8000000 in
theorem getM3_any (b : List UInt8) (v : Value) (M : Nat) (w : World) (hv : Sl M w v b) (hM : M ≤ w.heap.size) (hb1 : b.length ≤ 1000000000) {p0 fr pa ea to pb eb tm pc ec p1 e1 p2 e2 p3 e3 p4 e4 n1 n2 n3 n4 : Nat}
    (H0 : Hid (rdN b (0, 0) = (3, (p0, 0)))) (Ha : Hid (rdN b (p0, 0) = (fr, (pa, ea)))) (Hb : Hid (rdN b (pa, ea) = (to, (pb, eb)))) (Hc : Hid (rdN b (pb, eb) = (tm, (pc, ec)))) (H1 : Hid (rdN b (pc, ec) = (n1, (p1, e1)))) (H2 : Hid (rdN b (p1, e1) = (n2, (p2, e2)))) (H3 : Hid (rdN b (p2, e2) = (n3, (p3, e3)))) (H4 : Hid (rdN b (p3, e3) = (n4, (p4, e4)))) (E3 E : Nat) (hE3 : E3 = (if e4 ≠ 0 then e4 else if (64 : Int) < (n4 : Int) then 3 else (rdEs b 8192 n4 (p4, e4)).1 : Nat))
    (hE : E = if E3 ≠ 0 then E3 else if doneE b (rdEs b 8192 n4 (p4, e4)).2.2.1 (rdEs b 8192 n4 (p4, e4)).2.2.2 = 0 then ckM3 (fr : Int) (to : Int) (tm : Int) (n1 : Int) (n2 : Int) (n3 : Int) 0 0 false (entsOf (rdEs b 8192 n4 (p4, e4)).2.1) 0 0 0 else doneE b (rdEs b 8192 n4 (p4, e4)).2.2.1 (rdEs b 8192 n4 (p4, e4)).2.2.2) :
    Calls Try.prog 25 #[.agg #[], v] w fun r w' => Got3 w fr to tm n1 n2 n3 (rdEs b 8192 n4 (p4, e4)).2.1 E r w' ∧ Below w.heap.size w w' := by
  have hb : b.length ≤ 1099511627776 := by omega
  have HE3 : Hid (E3 = (if e4 ≠ 0 then e4 else if (64 : Int) < (n4 : Int) then 3 else (rdEs b 8192 n4 (p4, e4)).1 : Nat)) := hE3
  clear hE3
  have HCS : Hid (∀ es : List Ent, es.map Ent.says = saysN (rdEs b 8192 n4 (p4, e4)).2.1 → ckM3 (fr : Int) (to : Int) (tm : Int) (n1 : Int) (n2 : Int) (n3 : Int) 0 0 false es 0 0 0 = ckM3 (fr : Int) (to : Int) (tm : Int) (n1 : Int) (n2 : Int) (n3 : Int) 0 0 false (entsOf (rdEs b 8192 n4 (p4, e4)).2.1) 0 0 0) := fun es h => ckM3_says (h.trans (entsOf_says _).symm)
  obtain ⟨CK, hCK⟩ : ∃ CK, ckM3 (fr : Int) (to : Int) (tm : Int) (n1 : Int) (n2 : Int) (n3 : Int) 0 0 false (entsOf (rdEs b 8192 n4 (p4, e4)).2.1) 0 0 0 = CK := ⟨_, rfl⟩
  rw [hCK] at hE HCS
  clear hCK
  have HE : Hid (E = if E3 ≠ 0 then E3 else if doneE b (rdEs b 8192 n4 (p4, e4)).2.2.1 (rdEs b 8192 n4 (p4, e4)).2.2.2 = 0 then CK else doneE b (rdEs b 8192 n4 (p4, e4)).2.2.1 (rdEs b 8192 n4 (p4, e4)).2.2.2) := hE
  clear hE
  obtain ⟨a, cap, rfl, -⟩ := id hv
  obtain ⟨W0, hW0⟩ : ∃ W0, (w.alloc (.cells #[] 60)).alloc (.cells #[.int .i64 0, .int .i64 0, .int .i64 0, .int .i64 0, .int .i64 0, .int .i64 0, .int .i64 0, .int .i64 0, .int .i64 0, .bool false, .slice none 0 0, .int .i64 0, .int .i64 0, .slice none 0 0] 49) = W0 := ⟨_, rfl⟩
  have HW0 : Hid ((w.alloc (.cells #[] 60)).alloc (.cells #[.int .i64 0, .int .i64 0, .int .i64 0, .int .i64 0, .int .i64 0, .int .i64 0, .int .i64 0, .int .i64 0, .int .i64 0, .bool false, .slice none 0 0, .int .i64 0, .int .i64 0, .slice none 0 0] 49) = W0) := hW0
  have HB0 : Hid (Below w.heap.size w W0) := by show Below w.heap.size w W0; rw [← hW0]; exact (((Below.refl _ w).alloc (by simp) _).alloc (by simp) _)
  have HS : Hid (W0.heap.size = w.heap.size + 2) := by show W0.heap.size = _; rw [← hW0]; simp
  have HR : Hid (∀ w', Below W0.heap.size W0 w' → w'.heap[w.heap.size + 1]? = some (.cells #[.int .i64 0, .int .i64 0, .int .i64 0, .int .i64 0, .int .i64 0, .int .i64 0, .int .i64 0, .int .i64 0, .int .i64 0, .bool false, .slice none 0 0, .int .i64 0, .int .i64 0, .slice none 0 0] 49 (0, 0))) := fun w' hB => by
    refine (hB.block _ (by have := HS.out; omega)).trans ?_
    rw [← hW0]; simpa using World.alloc_heap_new (w.alloc (.cells #[] 60)) _
  have hv0 := hv.below (HB0.out.mono hM)
  clear hW0
  have inK : isIn 3 1 7 = true := by decide
  go_enter Try.func25, Try.ntmps25
  go_wp2_with fail
  rw [HW0.out]
  refine (newR_any W0 hv0 hb).mono ?_
  rintro r w1 ⟨R, rfl, h1⟩
  go_wp2_with fail
  refine (getNumber_any h1 H0).mono ?_
  rintro r w2 ⟨rfl, h2⟩
  go_wp2_with (go_at_call 57; refine (isKind_any _ _).mono ?_; rintro e w' ⟨rfl, hw⟩; subst w'; simp only [inK])
  refine (rrI h2 Ha).mono ?_
  rintro r w3 ⟨rfl, h3⟩
  go_wp2_with fail
  refine (rrI h3 Hb).mono ?_
  rintro r w4 ⟨rfl, h4⟩
  go_wp2_with fail
  refine (rrI h4 Hc).mono ?_
  rintro r w5 ⟨rfl, h5⟩
  go_wp2_with fail
  obtain ⟨W6, hW6⟩ : ∃ W6, w5.alloc (.cells #[.int .i64 3, .int .i64 (fr : Int), .int .i64 (to : Int), .int .i64 (tm : Int), .int .i64 0, .int .i64 0, .int .i64 0, .int .i64 0, .int .i64 0, .bool false, .slice none 0 0, .int .i64 0, .int .i64 0, .slice none 0 0] 49) = W6 := ⟨_, rfl⟩
  rw [hW6]
  have hBx : Below w5.heap.size w5 W6 := by rw [← hW6]; exact (Below.refl _ _).alloc (Nat.le_refl _) _
  have hX6 : W6.heap[w5.heap.size]? = some (.cells #[.int .i64 3, .int .i64 (fr : Int), .int .i64 (to : Int), .int .i64 (tm : Int), .int .i64 0, .int .i64 0, .int .i64 0, .int .i64 0, .int .i64 0, .bool false, .slice none 0 0, .int .i64 0, .int .i64 0, .slice none 0 0] 49 (0, 0)) := by rw [← hW6]; exact World.alloc_heap_new w5 _
  have h6 := h5.mono hBx
  have hz6 := hBx.size
  have hwz : w.heap.size ≤ W6.heap.size := by have := h6.bel.size; have := HS.out; omega
  clear hW6 hBx
  refine (getU3_any (fr : Int) (to : Int) (tm : Int) h6 hX6 h5.rdr.lt hb1 H1 H2 H3 H4 E3 HE3.out).mono ?_
  rintro r w7 ⟨va, vc, es, rfl, hE7, hc7, hX7, hT7⟩
  obtain ⟨⟨q0, q1, q2, q3, q4, q5, q6, q7, q8, q9, q10, q11, q12, q13⟩, -⟩ := cells14 hX7
  have hE7' := hE7.base (N' := w.heap.size) hwz
  have hBW : Below W0.heap.size W0 w7 := by
    have hle := h6.rdr.le
    have hb6 := h6.bel
    have hz := hb6.size
    have hzz := h5.bel.size
    exact hb6.trans ⟨hT7.os, hT7.tape, hT7.output, hT7.size, fun k hk => hT7.block k (by omega) (by omega) (by simp [Value.ownBlock]; omega)⟩
  have HR7 : Hid (w7.heap[w.heap.size + 1]? = some (.cells #[.int .i64 0, .int .i64 0, .int .i64 0, .int .i64 0, .int .i64 0, .int .i64 0, .int .i64 0, .int .i64 0, .int .i64 0, .bool false, .slice none 0 0, .int .i64 0, .int .i64 0, .slice none 0 0] 49 (0, 0))) := HR.out w7 hBW
  have HF7 : Hid (Below w.heap.size w w7) := HB0.out.trans (hBW.mono HB0.out.size)
  have hX17 : w.heap.size + 1 < W6.heap.size := by have := h6.bel.size; have := HS.out; omega
  by_cases hE30 : E3 = 0
  case neg =>
    have hke : ((E3 : Int) != 0) = true := by simp; omega
    obtain rfl : E = E3 := by rw [HE.out, if_pos hE30]
    obtain ⟨⟨r0, r1, r2, r3, r4, r5, r6, r7, r8, r9, r10, r11, r12, r13⟩, f0, f1, f2, f3, f4, f5, f6, f7, f8, f9, f10, f11, f12, f13⟩ := cells14 HR7.out
    have HK : Hid (EntsOw W6.heap.size w7 (.slice va es.length vc) es) := hE7
    clear h6 hX7 hX6 HE h5 h4 h3 h2 h1 q0 q1 q2 q3 q4 q5 q6 q7 q8 q9 q10 q11 q12 q13 hE7 hE7' hc7 hT7 HCS HE3 hBW
    go_wp2
    refine bodyPost_ret (results_95 rfl _ _ (w.heap.size + 1) rfl (set14 HR7.out _ _ _ _ _ _ _ _ _ _ _ _ _ _)) rfl ?_
    exact ⟨⟨va, vc, es, by rw [if_neg hE30]; rfl, (HK.out.kept (grownset14 w7 (w.heap.size + 1) _ _ _ _ _ _ _ _ _ _ _ _ _ _) hX17).base hwz, fun h => absurd h hE30⟩, belset14 HF7.out (by omega) _ _ _ _ _ _ _ _ _ _ _ _ _ _⟩
  subst hE30
  obtain ⟨hs7, h7⟩ := hc7 rfl
  have hck := HCS.out es hs7
  have HE2 : Hid (E = if doneE b (rdEs b 8192 n4 (p4, e4)).2.2.1 (rdEs b 8192 n4 (p4, e4)).2.2.2 = 0 then CK else doneE b (rdEs b 8192 n4 (p4, e4)).2.2.1 (rdEs b 8192 n4 (p4, e4)).2.2.2) := by have := HE.out; rw [if_neg (by simp)] at this; exact this
  have HSA : Hid (es.map Ent.says = saysN (rdEs b 8192 n4 (p4, e4)).2.1) := hs7
  have hEA := hE7.at
  have HCK : Hid (∀ w', Below w7.heap.size w7 w' → Calls Try.prog 24 #[.agg #[], .agg #[.int .i64 3, .int .i64 (fr : Int), .int .i64 (to : Int), .int .i64 (tm : Int), .int .i64 (n1 : Int), .int .i64 (n2 : Int), .int .i64 (n3 : Int), .int .i64 0, .int .i64 0, .bool false, .slice va es.length vc, .int .i64 0, .int .i64 0, .slice none 0 0]] w' fun e w'' => e = .returned (.int .i64 (CK : Int)) ∧ Below w'.heap.size w' w'') := fun w' hB => by
    have := chkM3_any (fr : Int) (to : Int) (tm : Int) (n1 : Int) (n2 : Int) (n3 : Int) 0 0 false va vc es 0 0 none 0 0 w' w7.heap.size (hEA.below hB) hB.size
    rw [hck] at this
    exact this
  clear hck hs7 HCS HE3 HE hc7
  go_wp2_with fail
  refine (wholeM_any 3 (fr : Int) (to : Int) (tm : Int) (n1 : Int) (n2 : Int) (n3 : Int) 0 0 false va es.length vc 0 0 none 0 0 R b _ _ w7 h7 CK E HCK HE2.out).mono ?_
  rintro r w8 ⟨rfl, hB8⟩
  have h8 := h7.mono hB8
  have HR8 : Hid (w8.heap[w.heap.size + 1]? = some (.cells #[.int .i64 0, .int .i64 0, .int .i64 0, .int .i64 0, .int .i64 0, .int .i64 0, .int .i64 0, .int .i64 0, .int .i64 0, .bool false, .slice none 0 0, .int .i64 0, .int .i64 0, .slice none 0 0] 49 (0, 0))) := HR.out w8 h8.bel
  have HF : Hid (Below w.heap.size w w8) := HB0.out.trans (h8.bel.mono HB0.out.size)
  have HK : Hid (EntsOw W6.heap.size w8 (.slice va es.length vc) es) := ⟨hE7.row.kept (Below.grownBy' hB8 none) (by cases va <;> simp [Value.ownBlock]), fun e he => (hE7.dat e he).below hB8 (Nat.le_refl _)⟩
  obtain ⟨⟨r0, r1, r2, r3, r4, r5, r6, r7, r8, r9, r10, r11, r12, r13⟩, f0, f1, f2, f3, f4, f5, f6, f7, f8, f9, f10, f11, f12, f13⟩ := cells14 HR8.out
  clear h6 h7 h8 hB8 hX7 hX6 HE2 HCK h5 h4 h3 h2 h1 q0 q1 q2 q3 q4 q5 q6 q7 q8 q9 q10 q11 q12 q13 hE7 hE7' hT7 hBW hEA
  by_cases hE0 : E = 0
  · subst hE0
    simp only [if_true]
    go_wp2
    refine bodyPost_ret (results_95 rfl _ _ (w.heap.size + 1) rfl (set14 HR8.out _ _ _ _ _ _ _ _ _ _ _ _ _ _)) rfl ?_
    exact ⟨⟨va, vc, es, rfl, (HK.out.kept (grownset14 w8 (w.heap.size + 1) _ _ _ _ _ _ _ _ _ _ _ _ _ _) hX17).base hwz, fun _ => HSA.out⟩, belset14 HF.out (by omega) _ _ _ _ _ _ _ _ _ _ _ _ _ _⟩
  · simp only [hE0, if_false]
    go_wp2
    refine bodyPost_ret (results_95 rfl _ _ (w.heap.size + 1) rfl (set14 HR8.out _ _ _ _ _ _ _ _ _ _ _ _ _ _)) rfl ?_
    exact ⟨⟨va, vc, es, by rw [if_neg hE0]; rfl, (HK.out.kept (grownset14 w8 (w.heap.size + 1) _ _ _ _ _ _ _ _ _ _ _ _ _ _) hX17).base hwz, fun h => absurd h hE0⟩, belset14 HF.out (by omega) _ _ _ _ _ _ _ _ _ _ _ _ _ _⟩

end Go.Proofs.Ytfnnbfgfmbiabab

