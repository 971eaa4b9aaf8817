/-
  GetM3; Sli; MsgU.
-/
import Derived.Test.YtfnnbfgfmbiabaaJ32
import Derived.Test.YtfnnbfgfmbiabaaJ34
import Derived.Test.YtfnnbfgfmbiabaaJ14
import Derived.Test.YtfnnbfgfmbiabaaJ13
import Derived.Test.YtfnnbfgfmbiabaaJ16
import Derived.Test.YtfnnbfgfmbiabaaJ18
import Derived.Test.YtfnnbfgfmbiabaaJ19
import Derived.Test.YtfnnbfgfmbiabaaJ20
import Derived.Test.YtfnnbfgfmbiabaaJ27
import Derived.Test.YtfnnbfgfmbiabaaJ28
import Derived.Test.YtfnnbfgfmbiabaaJ30
import Derived.Test.YtfnnbfgfmbiabaaJ31
import Derived.Test.YtfnnbfgfmbiabaaJ22
import Derived.Test.YtfnnbfgfmbiabaaJ21
/-
  A message of kind 3 read: the code's Get.
-/
namespace Go.Proofs.Ytfnnbfgfmbiabaa
open Go.RowKit Go.Shelf

/-- Entries of numbers. -/
def entsOf (L : List (Nat × Nat × Nat × List UInt8)) : List Ent := L.map fun x => Ent.of x none 0
theorem entsOf_says (L : List (Nat × Nat × Nat × List UInt8)) : (entsOf L).map Ent.says = saysN L := by
  simp [entsOf, saysN, Ent.of, Ent.says, Function.comp_def]

theorem ck_says {e f : Ent} (h : e.says = f.says) : e.ck = f.ck := by
  unfold Ent.says at h
  simp only [Prod.mk.injEq] at h
  unfold Ent.ck
  rw [h.1, h.2.1, h.2.2.1, h.2.2.2]
theorem firstErr_says {es fs : List Ent} (h : es.map Ent.says = fs.map Ent.says) : firstErr es = firstErr fs := by
  induction es generalizing fs with
  | nil => cases fs with
    | nil => rfl
    | cons f r => simp at h
  | cons e r ih => cases fs with
    | nil => simp at h
    | cons f q =>
      simp only [List.map_cons, List.cons.injEq] at h
      simp only [firstErr, ck_says h.1, ih h.2]
theorem goes_says {tm : Int} {es fs : List Ent} (h : es.map Ent.says = fs.map Ent.says) : ∀ ix lt, goes tm ix lt es = goes tm ix lt fs := by
  induction es generalizing fs with
  | nil => cases fs with
    | nil => intros; rfl
    | cons f r => simp at h
  | cons e r ih => cases fs with
    | nil => simp at h
    | cons f q =>
      simp only [List.map_cons, List.cons.injEq] at h
      have h1 := h.1
      unfold Ent.says at h1
      simp only [Prod.mk.injEq] at h1
      intro ix lt
      simp only [goes, h1.1, h1.2.1, ih h.2]
theorem ckM3_says {fr to tm ix lt cm hi cx : Int} {rj : Bool} {es fs : List Ent} {si st : Int} {sn : Nat} (h : es.map Ent.says = fs.map Ent.says) : ckM3 fr to tm ix lt cm hi cx rj es si st sn = ckM3 fr to tm ix lt cm hi cx rj fs si st sn := by
  have hl : es.length = fs.length := by have := congrArg List.length h; simpa using this
  unfold ckM3 ckApp
  rw [firstErr_says h, goes_says h, hl]

/-- Entries of a call's own, as a walk reads them. -/
theorem EntsOw.at {N : Nat} {w : World} {va : Option Addr} {vc : Nat} {es : List Ent} (h : EntsOw N w (.slice va es.length vc) es) : EntsAt w.heap.size w va es := by
  by_cases hz : es = []
  · exact .inl hz
  · have hp := List.length_pos_iff.2 hz
    rcases h.row.2 with ⟨_, h0⟩ | ⟨g, cap, cur, hv, hg, hh, h1, h2, h3, h4⟩
    · omega
    · cases hv
      refine .inr ⟨g, 0, rfl, (Array.getElem?_eq_some_iff.1 hh).1, fun i hi => ?_⟩
      have hcell : ∀ o v, o < es.length * 4 → (entCells es)[o]? = some v → w.cell? ⟨g, o, none⟩ = some v := fun o v ho hv => by
        simp only [World.cell?, hh]
        have : (cur.toList.take (es.length * 4))[o]? = some v := by rw [h4]; exact hv
        rw [List.getElem?_take, if_pos ho] at this
        simpa using this
      have hent : ∀ (fs : List Ent) (i : Nat), i < fs.length → (entCells fs)[i * 4]? = some (.int .i64 (fs.getD i nilEnt).t) ∧ (entCells fs)[i * 4 + 1]? = some (.int .i64 (fs.getD i nilEnt).i) ∧ (entCells fs)[i * 4 + 2]? = some (.int .i64 (fs.getD i nilEnt).k) ∧ (entCells fs)[i * 4 + 3]? = some (fs.getD i nilEnt).x := by
        intro fs
        induction fs with
        | nil => intro i hi; simp at hi
        | cons f r ih =>
          intro i hi
          cases i with
          | zero => simp [entCells]
          | succ i =>
            obtain ⟨a1, a2, a3, a4⟩ := ih i (by simpa using hi)
            have e1 : (i + 1) * 4 = i * 4 + 1 + 1 + 1 + 1 := by omega
            rw [e1]
            simp only [entCells, List.cons_append, List.nil_append, List.getElem?_cons_succ, List.getD_cons_succ]
            exact ⟨a1, a2, a3, a4⟩
      obtain ⟨a1, a2, a3, a4⟩ := hent es i hi
      have hmem : es.getD i nilEnt ∈ es := by rw [List.getD_eq_getElem?_getD, List.getElem?_eq_getElem hi]; exact List.getElem_mem hi
      rw [Nat.zero_add]
      exact ⟨hcell _ _ (by omega) a1, hcell _ _ (by omega) a2, hcell _ _ (by omega) a3, hcell _ _ (by omega) a4, (h.dat _ hmem).sl (Nat.le_refl _)⟩

/-- What Get answers of a message of kind 3. -/
def Got3 (w : World) (fr to tm n1 n2 n3 : Nat) (L : List (Nat × Nat × Nat × List UInt8)) (E : Nat) (r : Ending) (w' : World) : Prop :=
  ∃ va vc es, r = .returned (.tuple #[if E = 0 then .agg #[.int .i64 3, .int .i64 (fr : Int), .int .i64 (to : Int), .int .i64 (tm : Int), .int .i64 (n1 : Int), .int .i64 (n2 : Int), .int .i64 (n3 : Int), .int .i64 0, .int .i64 0, .bool false, .slice va es.length vc, .int .i64 0, .int .i64 0, .slice none 0 0] else .agg #[.int .i64 0, .int .i64 0, .int .i64 0, .int .i64 0, .int .i64 0, .int .i64 0, .int .i64 0, .int .i64 0, .int .i64 0, .bool false, .slice none 0 0, .int .i64 0, .int .i64 0, .slice none 0 0], .int .i64 (E : Int)]) ∧ EntsOw w.heap.size w' (.slice va es.length vc) es ∧ (E = 0 → es.map Ent.says = saysN L)

set_option maxRecDepth 100000 in
set_option maxHeartbeats 8000000 in
theorem getM3_any (b : List UInt8) (v : Value) (M : Nat) (w : World) (hv : Sl M w v b) (hM : M ≤ w.heap.size) (hb1 : b.length ≤ 1000000000) {p0 fr pa ea to pb eb tm pc ec p1 e1 p2 e2 p3 e3 p4 e4 n1 n2 n3 n4 : Nat}
    (H0 : Hid (rdN b (0, 0) = (3, (p0, 0)))) (Ha : Hid (rdN b (p0, 0) = (fr, (pa, ea)))) (Hb : Hid (rdN b (pa, ea) = (to, (pb, eb)))) (Hc : Hid (rdN b (pb, eb) = (tm, (pc, ec)))) (H1 : Hid (rdN b (pc, ec) = (n1, (p1, e1)))) (H2 : Hid (rdN b (p1, e1) = (n2, (p2, e2)))) (H3 : Hid (rdN b (p2, e2) = (n3, (p3, e3)))) (H4 : Hid (rdN b (p3, e3) = (n4, (p4, e4)))) (E3 E : Nat) (hE3 : E3 = (if e4 ≠ 0 then e4 else if (64 : Int) < (n4 : Int) then 3 else (rdEs b 8192 n4 (p4, e4)).1 : Nat))
    (hE : E = if E3 ≠ 0 then E3 else if doneE b (rdEs b 8192 n4 (p4, e4)).2.2.1 (rdEs b 8192 n4 (p4, e4)).2.2.2 = 0 then ckM3 (fr : Int) (to : Int) (tm : Int) (n1 : Int) (n2 : Int) (n3 : Int) 0 0 false (entsOf (rdEs b 8192 n4 (p4, e4)).2.1) 0 0 0 else doneE b (rdEs b 8192 n4 (p4, e4)).2.2.1 (rdEs b 8192 n4 (p4, e4)).2.2.2) :
    Calls Try.prog 51 #[.agg #[], v] w fun r w' => Got3 w fr to tm n1 n2 n3 (rdEs b 8192 n4 (p4, e4)).2.1 E r w' ∧ Below w.heap.size w w' := by
  have hb : b.length ≤ 1099511627776 := by omega
  have HE3 : Hid (E3 = (if e4 ≠ 0 then e4 else if (64 : Int) < (n4 : Int) then 3 else (rdEs b 8192 n4 (p4, e4)).1 : Nat)) := hE3
  clear hE3
  have HCS : Hid (∀ es : List Ent, es.map Ent.says = saysN (rdEs b 8192 n4 (p4, e4)).2.1 → ckM3 (fr : Int) (to : Int) (tm : Int) (n1 : Int) (n2 : Int) (n3 : Int) 0 0 false es 0 0 0 = ckM3 (fr : Int) (to : Int) (tm : Int) (n1 : Int) (n2 : Int) (n3 : Int) 0 0 false (entsOf (rdEs b 8192 n4 (p4, e4)).2.1) 0 0 0) := fun es h => ckM3_says (h.trans (entsOf_says _).symm)
  obtain ⟨CK, hCK⟩ : ∃ CK, ckM3 (fr : Int) (to : Int) (tm : Int) (n1 : Int) (n2 : Int) (n3 : Int) 0 0 false (entsOf (rdEs b 8192 n4 (p4, e4)).2.1) 0 0 0 = CK := ⟨_, rfl⟩
  rw [hCK] at hE HCS
  clear hCK
  have HE : Hid (E = if E3 ≠ 0 then E3 else if doneE b (rdEs b 8192 n4 (p4, e4)).2.2.1 (rdEs b 8192 n4 (p4, e4)).2.2.2 = 0 then CK else doneE b (rdEs b 8192 n4 (p4, e4)).2.2.1 (rdEs b 8192 n4 (p4, e4)).2.2.2) := hE
  clear hE
  obtain ⟨a, cap, rfl, -⟩ := id hv
  obtain ⟨W0, hW0⟩ : ∃ W0, (w.alloc (.cells #[] 97)).alloc (.cells #[.int .i64 0, .int .i64 0, .int .i64 0, .int .i64 0, .int .i64 0, .int .i64 0, .int .i64 0, .int .i64 0, .int .i64 0, .bool false, .slice none 0 0, .int .i64 0, .int .i64 0, .slice none 0 0] 95) = W0 := ⟨_, rfl⟩
  have HW0 : Hid ((w.alloc (.cells #[] 97)).alloc (.cells #[.int .i64 0, .int .i64 0, .int .i64 0, .int .i64 0, .int .i64 0, .int .i64 0, .int .i64 0, .int .i64 0, .int .i64 0, .bool false, .slice none 0 0, .int .i64 0, .int .i64 0, .slice none 0 0] 95) = W0) := hW0
  have HB0 : Hid (Below w.heap.size w W0) := by show Below w.heap.size w W0; rw [← hW0]; exact (((Below.refl _ w).alloc (by simp) _).alloc (by simp) _)
  have HS : Hid (W0.heap.size = w.heap.size + 2) := by show W0.heap.size = _; rw [← hW0]; simp
  have HR : Hid (∀ w', Below W0.heap.size W0 w' → w'.heap[w.heap.size + 1]? = some (.cells #[.int .i64 0, .int .i64 0, .int .i64 0, .int .i64 0, .int .i64 0, .int .i64 0, .int .i64 0, .int .i64 0, .int .i64 0, .bool false, .slice none 0 0, .int .i64 0, .int .i64 0, .slice none 0 0] 95 (0, 0))) := fun w' hB => by
    refine (hB.block _ (by have := HS.out; omega)).trans ?_
    rw [← hW0]; simpa using World.alloc_heap_new (w.alloc (.cells #[] 97)) _
  have hv0 := hv.below (HB0.out.mono hM)
  clear hW0
  have inK : isIn 3 1 7 = true := by decide
  go_enter Try.func51, Try.ntmps51
  go_wp2_with fail
  rw [HW0.out]
  refine (newR_any W0 hv0 hb).mono ?_
  rintro r w1 ⟨R, rfl, h1⟩
  go_wp2_with fail
  refine (getNumber_any h1 H0).mono ?_
  rintro r w2 ⟨rfl, h2⟩
  go_wp2_with (go_at_call 83; refine (isKind_any _ _).mono ?_; rintro e w' ⟨rfl, hw⟩; subst w'; simp only [inK])
  refine (rrI h2 Ha).mono ?_
  rintro r w3 ⟨rfl, h3⟩
  go_wp2_with fail
  refine (rrI h3 Hb).mono ?_
  rintro r w4 ⟨rfl, h4⟩
  go_wp2_with fail
  refine (rrI h4 Hc).mono ?_
  rintro r w5 ⟨rfl, h5⟩
  go_wp2_with fail
  obtain ⟨W6, hW6⟩ : ∃ W6, w5.alloc (.cells #[.int .i64 3, .int .i64 (fr : Int), .int .i64 (to : Int), .int .i64 (tm : Int), .int .i64 0, .int .i64 0, .int .i64 0, .int .i64 0, .int .i64 0, .bool false, .slice none 0 0, .int .i64 0, .int .i64 0, .slice none 0 0] 95) = W6 := ⟨_, rfl⟩
  rw [hW6]
  have hBx : Below w5.heap.size w5 W6 := by rw [← hW6]; exact (Below.refl _ _).alloc (Nat.le_refl _) _
  have hX6 : W6.heap[w5.heap.size]? = some (.cells #[.int .i64 3, .int .i64 (fr : Int), .int .i64 (to : Int), .int .i64 (tm : Int), .int .i64 0, .int .i64 0, .int .i64 0, .int .i64 0, .int .i64 0, .bool false, .slice none 0 0, .int .i64 0, .int .i64 0, .slice none 0 0] 95 (0, 0)) := by rw [← hW6]; exact World.alloc_heap_new w5 _
  have h6 := h5.mono hBx
  have hz6 := hBx.size
  have hwz : w.heap.size ≤ W6.heap.size := by have := h6.bel.size; have := HS.out; omega
  clear hW6 hBx
  refine (getU3_any (fr : Int) (to : Int) (tm : Int) h6 hX6 h5.rdr.lt hb1 H1 H2 H3 H4 E3 HE3.out).mono ?_
  rintro r w7 ⟨va, vc, es, rfl, hE7, hc7, hX7, hT7⟩
  obtain ⟨⟨q0, q1, q2, q3, q4, q5, q6, q7, q8, q9, q10, q11, q12, q13⟩, -⟩ := cells14 hX7
  have hE7' := hE7.base (N' := w.heap.size) hwz
  have hBW : Below W0.heap.size W0 w7 := by
    have hle := h6.rdr.le
    have hb6 := h6.bel
    have hz := hb6.size
    have hzz := h5.bel.size
    exact hb6.trans ⟨hT7.os, hT7.tape, hT7.output, hT7.size, fun k hk => hT7.block k (by omega) (by omega) (by simp [Value.ownBlock]; omega)⟩
  have HR7 : Hid (w7.heap[w.heap.size + 1]? = some (.cells #[.int .i64 0, .int .i64 0, .int .i64 0, .int .i64 0, .int .i64 0, .int .i64 0, .int .i64 0, .int .i64 0, .int .i64 0, .bool false, .slice none 0 0, .int .i64 0, .int .i64 0, .slice none 0 0] 95 (0, 0))) := HR.out w7 hBW
  have HF7 : Hid (Below w.heap.size w w7) := HB0.out.trans (hBW.mono HB0.out.size)
  have hX17 : w.heap.size + 1 < W6.heap.size := by have := h6.bel.size; have := HS.out; omega
  by_cases hE30 : E3 = 0
  case neg =>
    have hke : ((E3 : Int) != 0) = true := by simp; omega
    obtain rfl : E = E3 := by rw [HE.out, if_pos hE30]
    obtain ⟨⟨r0, r1, r2, r3, r4, r5, r6, r7, r8, r9, r10, r11, r12, r13⟩, f0, f1, f2, f3, f4, f5, f6, f7, f8, f9, f10, f11, f12, f13⟩ := cells14 HR7.out
    have HK : Hid (EntsOw W6.heap.size w7 (.slice va es.length vc) es) := hE7
    clear h6 hX7 hX6 HE h5 h4 h3 h2 h1 q0 q1 q2 q3 q4 q5 q6 q7 q8 q9 q10 q11 q12 q13 hE7 hE7' hc7 hT7 HCS HE3 hBW
    go_wp2
    refine bodyPost_ret (results_95 rfl _ _ (w.heap.size + 1) rfl (set14 HR7.out _ _ _ _ _ _ _ _ _ _ _ _ _ _)) rfl ?_
    exact ⟨⟨va, vc, es, by rw [if_neg hE30]; rfl, (HK.out.kept (grownset14 w7 (w.heap.size + 1) _ _ _ _ _ _ _ _ _ _ _ _ _ _) hX17).base hwz, fun h => absurd h hE30⟩, belset14 HF7.out (by omega) _ _ _ _ _ _ _ _ _ _ _ _ _ _⟩
  subst hE30
  obtain ⟨hs7, h7⟩ := hc7 rfl
  have hck := HCS.out es hs7
  have HE2 : Hid (E = if doneE b (rdEs b 8192 n4 (p4, e4)).2.2.1 (rdEs b 8192 n4 (p4, e4)).2.2.2 = 0 then CK else doneE b (rdEs b 8192 n4 (p4, e4)).2.2.1 (rdEs b 8192 n4 (p4, e4)).2.2.2) := by have := HE.out; rw [if_neg (by simp)] at this; exact this
  have HSA : Hid (es.map Ent.says = saysN (rdEs b 8192 n4 (p4, e4)).2.1) := hs7
  have hEA := hE7.at
  have HCK : Hid (∀ w', Below w7.heap.size w7 w' → Calls Try.prog 49 #[.agg #[], .agg #[.int .i64 3, .int .i64 (fr : Int), .int .i64 (to : Int), .int .i64 (tm : Int), .int .i64 (n1 : Int), .int .i64 (n2 : Int), .int .i64 (n3 : Int), .int .i64 0, .int .i64 0, .bool false, .slice va es.length vc, .int .i64 0, .int .i64 0, .slice none 0 0]] w' fun e w'' => e = .returned (.int .i64 (CK : Int)) ∧ Below w'.heap.size w' w'') := fun w' hB => by
    have := chkM3_any (fr : Int) (to : Int) (tm : Int) (n1 : Int) (n2 : Int) (n3 : Int) 0 0 false va vc es 0 0 none 0 0 w' w7.heap.size (hEA.below hB) hB.size
    rw [hck] at this
    exact this
  clear hck hs7 HCS HE3 HE hc7
  go_wp2_with fail
  refine (wholeM_any 3 (fr : Int) (to : Int) (tm : Int) (n1 : Int) (n2 : Int) (n3 : Int) 0 0 false va es.length vc 0 0 none 0 0 R b _ _ w7 h7 CK E HCK HE2.out).mono ?_
  rintro r w8 ⟨rfl, hB8⟩
  have h8 := h7.mono hB8
  have HR8 : Hid (w8.heap[w.heap.size + 1]? = some (.cells #[.int .i64 0, .int .i64 0, .int .i64 0, .int .i64 0, .int .i64 0, .int .i64 0, .int .i64 0, .int .i64 0, .int .i64 0, .bool false, .slice none 0 0, .int .i64 0, .int .i64 0, .slice none 0 0] 95 (0, 0))) := HR.out w8 h8.bel
  have HF : Hid (Below w.heap.size w w8) := HB0.out.trans (h8.bel.mono HB0.out.size)
  have HK : Hid (EntsOw W6.heap.size w8 (.slice va es.length vc) es) := ⟨hE7.row.kept (Below.grownBy' hB8 none) (by cases va <;> simp [Value.ownBlock]), fun e he => (hE7.dat e he).below hB8 (Nat.le_refl _)⟩
  obtain ⟨⟨r0, r1, r2, r3, r4, r5, r6, r7, r8, r9, r10, r11, r12, r13⟩, f0, f1, f2, f3, f4, f5, f6, f7, f8, f9, f10, f11, f12, f13⟩ := cells14 HR8.out
  clear h6 h7 h8 hB8 hX7 hX6 HE2 HCK h5 h4 h3 h2 h1 q0 q1 q2 q3 q4 q5 q6 q7 q8 q9 q10 q11 q12 q13 hE7 hE7' hT7 hBW hEA
  by_cases hE0 : E = 0
  · subst hE0
    simp only [if_true]
    go_wp2
    refine bodyPost_ret (results_95 rfl _ _ (w.heap.size + 1) rfl (set14 HR8.out _ _ _ _ _ _ _ _ _ _ _ _ _ _)) rfl ?_
    exact ⟨⟨va, vc, es, rfl, (HK.out.kept (grownset14 w8 (w.heap.size + 1) _ _ _ _ _ _ _ _ _ _ _ _ _ _) hX17).base hwz, fun _ => HSA.out⟩, belset14 HF.out (by omega) _ _ _ _ _ _ _ _ _ _ _ _ _ _⟩
  · simp only [hE0, if_false]
    go_wp2
    refine bodyPost_ret (results_95 rfl _ _ (w.heap.size + 1) rfl (set14 HR8.out _ _ _ _ _ _ _ _ _ _ _ _ _ _)) rfl ?_
    exact ⟨⟨va, vc, es, by rw [if_neg hE0]; rfl, (HK.out.kept (grownset14 w8 (w.heap.size + 1) _ _ _ _ _ _ _ _ _ _ _ _ _ _) hX17).base hwz, fun h => absurd h hE0⟩, belset14 HF.out (by omega) _ _ _ _ _ _ _ _ _ _ _ _ _ _⟩

end Go.Proofs.Ytfnnbfgfmbiabaa

/-
  Is a message small enough to be looked at?
-/
namespace Go.Proofs.Ytfnnbfgfmbiabaa
open Go.RowKit Go.Shelf

/-- What 'slight' answers: if it says yes, the snapshot and the entries are few. -/
def SlightP (sd : List UInt8) (es : List Ent) (r : Ending) : Prop := ∃ b : Bool, r = .returned (.bool b) ∧ (b = true → sd.length ≤ 20000 ∧ es.length ≤ 200)

set_option maxRecDepth 100000 in
set_option maxHeartbeats 8000000 in
theorem slight_any (kd fr to tm ix lt cm hi cx : Int) (rj : Bool) (ea : Option Addr) (ec : Nat) (es : List Ent) (si st : Int) (sa : Option Addr) (sc : Nat) (sd : List UInt8) (N : Nat) (w : World) (hE : EntsAt N w ea es) (hN : N ≤ w.heap.size) (hs : sd.length ≤ 9223372036854775807) (hz : es.length ≤ 9223372036854775807) : Calls Try.prog 46 #[.agg #[.int .i64 kd, .int .i64 fr, .int .i64 to, .int .i64 tm, .int .i64 ix, .int .i64 lt, .int .i64 cm, .int .i64 hi, .int .i64 cx, .bool rj, .slice ea es.length ec, .int .i64 si, .int .i64 st, .slice sa sd.length sc]] w fun r w' => SlightP sd es r ∧ Below w.heap.size w w' := by
  obtain ⟨W0, hW0⟩ : ∃ W0, w.alloc (.cells #[.int .i64 kd, .int .i64 fr, .int .i64 to, .int .i64 tm, .int .i64 ix, .int .i64 lt, .int .i64 cm, .int .i64 hi, .int .i64 cx, .bool rj, .slice ea es.length ec, .int .i64 si, .int .i64 st, .slice sa sd.length sc] 95) = W0 := ⟨_, rfl⟩
  have HW0 : Hid (w.alloc (.cells #[.int .i64 kd, .int .i64 fr, .int .i64 to, .int .i64 tm, .int .i64 ix, .int .i64 lt, .int .i64 cm, .int .i64 hi, .int .i64 cx, .bool rj, .slice ea es.length ec, .int .i64 si, .int .i64 st, .slice sa sd.length sc] 95) = W0) := hW0
  have HB0 : Hid (Below w.heap.size w W0) := by show Below w.heap.size w W0; rw [← hW0]; exact (Below.refl _ w).alloc (by simp) _
  have HX : Hid (W0.heap[w.heap.size]? = some (.cells #[.int .i64 kd, .int .i64 fr, .int .i64 to, .int .i64 tm, .int .i64 ix, .int .i64 lt, .int .i64 cm, .int .i64 hi, .int .i64 cx, .bool rj, .slice ea es.length ec, .int .i64 si, .int .i64 st, .slice sa sd.length sc] 95 (0, 0))) := by
    show W0.heap[w.heap.size]? = _
    rw [← hW0]; exact World.alloc_heap_new w _
  have HEE : Hid (EntsAt N W0 ea es) := hE.below (HB0.out.mono hN)
  have hlw : w.heap.size < W0.heap.size := by rw [← hW0]; simp
  clear hW0 hE
  obtain ⟨⟨q0, q1, q2, q3, q4, q5, q6, q7, q8, q9, q10, q11, q12, q13⟩, -⟩ := cells14 HX.out
  go_enter Try.func46, Try.ntmps46
  go_wp2_with fail
  rw [HW0.out]
  go_loopw [3, 4] (fun nv iv wr => ∃ (k n : Nat), iv = .int .i64 (k : Int) ∧ nv = .int .i64 (n : Int) ∧ k ≤ es.length ∧ sd.length ≤ n ∧ n ≤ 9223372036854775807 ∧ wr = W0) (fun _ iv _ => es.length - (intOf iv).toNat)
  case atStart => exact ⟨0, sd.length, rfl, rfl, Nat.zero_le _, Nat.le_refl _, by omega, rfl⟩
  case round =>
    obtain ⟨k, n, rfl, rfl, hk, hn, hn2, rfl⟩ := hrel
    by_cases hsm : n ≤ 20000
    · have hd : decide ((n : Int) ≤ 20000) = true := by simp; omega
      by_cases hlt : k < es.length
      · obtain ⟨b, off, hea, hb, he⟩ := HEE.out.at hlt
        subst hea
        generalize es.getD k nilEnt = e at *
        obtain ⟨et, ei, ek, eaa, ecc, ed⟩ := e
        obtain ⟨c0, c1, c2, c3, -⟩ := he
        unfold Ent.x at c3
        simp only at c0 c1 c2 c3
        by_cases hmin : ed.length ≤ 20000
        · have hmi : (ed.length : Int) ≤ 20000 := by omega
          go_wp2
          exact ⟨⟨k + 1, n + ed.length, by go_num, by go_num, by omega, by omega, by omega, trivial⟩, by simp [intOf]; omega⟩
        · have hmi : (20000 : Int) < (ed.length : Int) := by omega
          go_wp2
          exact ⟨⟨k + 1, n + 20000, by go_num, by go_num, by omega, by omega, by omega, trivial⟩, by simp [intOf]; omega⟩
      · have hlt' : (es.length : Int) ≤ (k : Int) := by omega
        have HF : Hid (∀ b : Bool, b = decide ((es.length : Int) ≤ 200) → SlightP sd es (.returned (.bool b))) := fun b hb => ⟨b, rfl, fun h => by
          rw [hb, decide_eq_true_eq] at h
          exact ⟨by omega, by omega⟩⟩
        go_wp2
        go_returns
        exact ⟨HF.out _ rfl, HB0.out⟩
    · have hd : decide ((n : Int) ≤ 20000) = false := by simp; omega
      have hd2 : (20000 : Int) < (n : Int) := by omega
      have HF : Hid (SlightP sd es (.returned (.bool false))) := ⟨false, rfl, by simp⟩
      by_cases hlt : k < es.length
      · go_wp2
        go_returns
        exact ⟨HF.out, HB0.out⟩
      · have hlt' : (es.length : Int) ≤ (k : Int) := by omega
        go_wp2
        go_returns
        exact ⟨HF.out, HB0.out⟩
end Go.Proofs.Ytfnnbfgfmbiabaa

/-
  A message as one thing: in memory, its Check, its text; Check, Put and SameMessage of both sides.
-/
namespace Go.Proofs.Ytfnnbfgfmbiabaa
open Go.RowKit Go.Shelf

structure Msg where
  kd : Int
  fr : Int
  to : Int
  tm : Int
  ix : Int
  lt : Int
  cm : Int
  hi : Int
  cx : Int
  rj : Bool
  ea : Option Addr
  ec : Nat
  es : List Ent
  si : Int
  st : Int
  sa : Option Addr
  sc : Nat
  sd : List UInt8

/-- The message as a value. -/
def Msg.v (m : Msg) : Value := .agg #[.int .i64 m.kd, .int .i64 m.fr, .int .i64 m.to, .int .i64 m.tm, .int .i64 m.ix, .int .i64 m.lt, .int .i64 m.cm, .int .i64 m.hi, .int .i64 m.cx, .bool m.rj, .slice m.ea m.es.length m.ec, .int .i64 m.si, .int .i64 m.st, .slice m.sa m.sd.length m.sc]
/-- What it points to lies in memory. -/
def Msg.At (N : Nat) (w : World) (m : Msg) : Prop := EntsAt N w m.ea m.es ∧ Sl N w (.slice m.sa m.sd.length m.sc) m.sd
theorem Msg.At.below {N : Nat} {w w' : World} {m : Msg} (h : m.At N w) (hB : Below N w w') : m.At N w' := ⟨h.1.below hB, h.2.below hB⟩
theorem Msg.At.mono {N M : Nat} {w : World} {m : Msg} (h : m.At N w) (hM : N ≤ M) : m.At M w := ⟨h.1.mono hM, h.2.mono hM⟩
/-- What a message says. -/
def Msg.says (m : Msg) : (Int × Int × Int × Int × Int × Int × Int × Int × Int) × Bool × List (Int × Int × Int × List UInt8) × Int × Int × List UInt8 := ((m.kd, m.fr, m.to, m.tm, m.ix, m.lt, m.cm, m.hi, m.cx), m.rj, saysOf m.es, m.si, m.st, m.sd)
/-- Its Check. -/
def Msg.ck (m : Msg) : Nat :=
  if m.kd = 1 then ckM1 m.fr m.to m.tm m.ix m.lt m.cm m.hi m.cx m.rj m.es.length m.si m.st m.sd.length else
  if m.kd = 2 then ckM2 m.fr m.to m.tm m.ix m.lt m.cm m.hi m.cx m.rj m.es.length m.si m.st m.sd.length else
  if m.kd = 3 then ckM3 m.fr m.to m.tm m.ix m.lt m.cm m.hi m.cx m.rj m.es m.si m.st m.sd.length else
  if m.kd = 4 then ckM4 m.fr m.to m.tm m.ix m.lt m.cm m.hi m.cx m.rj m.es.length m.si m.st m.sd.length else
  if m.kd = 5 then ckM5 m.fr m.to m.tm m.ix m.lt m.cm m.hi m.cx m.rj m.es.length m.si m.st m.sd.length else
  if m.kd = 6 then ckM6 m.fr m.to m.tm m.ix m.lt m.cm m.hi m.cx m.rj m.es.length m.si m.st m.sd.length else
  if m.kd = 7 then ckM7 m.fr m.to m.tm m.ix m.lt m.cm m.hi m.cx m.rj m.es.length m.si m.st m.sd.length else
  6
/-- Its text. -/
def Msg.tx (m : Msg) : List UInt8 :=
  if m.kd = 1 then txM1 m.fr m.to m.tm m.ix m.lt else
  if m.kd = 2 then txM2 m.fr m.to m.tm m.rj else
  if m.kd = 3 then numB 3 ++ numB m.fr.toNat ++ numB m.to.toNat ++ numB m.tm.toNat ++ (numB m.ix.toNat ++ (numB m.lt.toNat ++ (numB m.cm.toNat ++ (numB m.es.length ++ packs m.es)))) else
  if m.kd = 4 then txM4 m.fr m.to m.tm m.ix m.hi m.rj else
  if m.kd = 5 then txM5 m.fr m.to m.tm m.cm m.cx else
  if m.kd = 6 then txM6 m.fr m.to m.tm m.cx else
  if m.kd = 7 then numB 7 ++ numB m.fr.toNat ++ numB m.to.toNat ++ numB m.tm.toNat ++ (numB (txSnap m.si m.st m.sd).length ++ txSnap m.si m.st m.sd) else
  []

theorem kinds (k : Int) : isIn k 1 7 = false ∨ k = 1 ∨ k = 2 ∨ k = 3 ∨ k = 4 ∨ k = 5 ∨ k = 6 ∨ k = 7 := by
  cases h : isIn k 1 7
  · exact .inl rfl
  · right; simp [isIn] at h; omega
theorem ck_no {m : Msg} (h : isIn m.kd 1 7 = false) : m.ck = 6 := by
  have : ¬ (1 ≤ m.kd ∧ m.kd ≤ 7) := by intro ⟨a, b⟩; simp [isIn] at h; omega
  unfold Msg.ck
  rw [if_neg (by omega)]; rw [if_neg (by omega)]; rw [if_neg (by omega)]; rw [if_neg (by omega)]; rw [if_neg (by omega)]; rw [if_neg (by omega)]; rw [if_neg (by omega)]

set_option maxRecDepth 100000 in
set_option maxHeartbeats 8000000 in
theorem chkMsg_any (m : Msg) (N : Nat) (w : World) (h : m.At N w) (hN : N ≤ w.heap.size) : Calls Try.prog 49 #[.agg #[], m.v] w fun e w' => e = .returned (.int .i64 (m.ck : Int)) ∧ Below w.heap.size w w' := by
  obtain ⟨kd, fr, to, tm, ix, lt, cm, hi, cx, rj, ea, ec, es, si, st, sa, sc, sd⟩ := m
  obtain ⟨hE, hD⟩ := h
  rcases kinds kd with hk | rfl | rfl | rfl | rfl | rfl | rfl | rfl
  · have := ck_no (m := ⟨kd, fr, to, tm, ix, lt, cm, hi, cx, rj, ea, ec, es, si, st, sa, sc, sd⟩) hk
    rw [this]; exact chkKindNo_any kd fr to tm ix lt cm hi cx rj ea es.length ec si st sa sd.length sc w hk
  · exact chkM1_any fr to tm ix lt cm hi cx rj ea es.length ec si st sa sd.length sc w
  · exact chkM2_any fr to tm ix lt cm hi cx rj ea es.length ec si st sa sd.length sc w
  · exact chkM3_any fr to tm ix lt cm hi cx rj ea ec es si st sa sd.length sc w N hE hN
  · exact chkM4_any fr to tm ix lt cm hi cx rj ea es.length ec si st sa sd.length sc w
  · exact chkM5_any fr to tm ix lt cm hi cx rj ea es.length ec si st sa sd.length sc w
  · exact chkM6_any fr to tm ix lt cm hi cx rj ea es.length ec si st sa sd.length sc w
  · exact chkM7_any fr to tm ix lt cm hi cx rj ea es.length ec si st sa sd.length sc w

set_option maxRecDepth 100000 in
set_option maxHeartbeats 8000000 in
theorem refChkMsg_any (m : Msg) (N : Nat) (w : World) (h : m.At N w) (hN : N ≤ w.heap.size) (hz : m.es.length ≤ 1000000) : Calls Try.prog 50 #[m.v] w fun e w' => e = .returned (.int .i64 (m.ck : Int)) ∧ Below w.heap.size w w' := by
  obtain ⟨kd, fr, to, tm, ix, lt, cm, hi, cx, rj, ea, ec, es, si, st, sa, sc, sd⟩ := m
  obtain ⟨hE, hD⟩ := h
  rcases kinds kd with hk | rfl | rfl | rfl | rfl | rfl | rfl | rfl
  · have := ck_no (m := ⟨kd, fr, to, tm, ix, lt, cm, hi, cx, rj, ea, ec, es, si, st, sa, sc, sd⟩) hk
    rw [this]; exact refKindNo_any kd fr to tm ix lt cm hi cx rj ea es.length ec si st sa sd.length sc w hk
  · exact refChkM1_any fr to tm ix lt cm hi cx rj ea ec es si st sa sc sd N w hE hD hN hz
  · exact refChkM2_any fr to tm ix lt cm hi cx rj ea ec es si st sa sc sd N w hE hD hN hz
  · exact refChkM3_any fr to tm ix lt cm hi cx rj ea ec es si st sa sc sd N w hE hD hN hz
  · exact refChkM4_any fr to tm ix lt cm hi cx rj ea ec es si st sa sc sd N w hE hD hN hz
  · exact refChkM5_any fr to tm ix lt cm hi cx rj ea ec es si st sa sc sd N w hE hD hN hz
  · exact refChkM6_any fr to tm ix lt cm hi cx rj ea ec es si st sa sc sd N w hE hD hN hz
  · exact refChkM7_any fr to tm ix lt cm hi cx rj ea ec es si st sa sc sd N w hE hD hN hz

set_option maxRecDepth 100000 in
set_option maxHeartbeats 8000000 in
theorem putKindNo_any (kd fr to tm ix lt cm hi cx : Int) (rj : Bool) (ea : Option Addr) (en ec : Nat) (si st : Int) (sa : Option Addr) (sn sc : Nat) (w : World) (hK : isIn kd 1 7 = false) : Calls Try.prog 47 #[.agg #[], .agg #[.int .i64 kd, .int .i64 fr, .int .i64 to, .int .i64 tm, .int .i64 ix, .int .i64 lt, .int .i64 cm, .int .i64 hi, .int .i64 cx, .bool rj, .slice ea en ec, .int .i64 si, .int .i64 st, .slice sa sn sc]] w fun r w' => ∃ u, r = .returned (.tuple #[u, .int .i64 6]) ∧ Ow w.heap.size w' u [] ∧ Below w.heap.size w w' := by
  have ck1 := fun w' => chkKindNo_any kd fr to tm ix lt cm hi cx rj ea en ec si st sa sn sc w' hK
  have HB0 : Hid (∀ o0 o1, Below w.heap.size w ((w.alloc o0).alloc o1)) := fun _ _ => (((Below.refl _ w).alloc (by simp) _).alloc (by simp) _)
  go_enter Try.func47, Try.ntmps47
  go_wp2_with (go_at_call 49; refine (ck1 _).mono ?_; rintro e w1 ⟨rfl, hB1⟩)
  go_ret2
  exact ⟨_, rfl, Ow.nil _ _, (HB0.out _ _).trans (hB1.mono (HB0.out _ _).size)⟩

set_option maxRecDepth 100000 in
set_option maxHeartbeats 8000000 in
theorem refPutKindNo_any (kd fr to tm ix lt cm hi cx : Int) (rj : Bool) (ea : Option Addr) (en ec : Nat) (si st : Int) (sa : Option Addr) (sn sc : Nat) (w : World) (hK : isIn kd 1 7 = false) : Calls Try.prog 48 #[.agg #[.int .i64 kd, .int .i64 fr, .int .i64 to, .int .i64 tm, .int .i64 ix, .int .i64 lt, .int .i64 cm, .int .i64 hi, .int .i64 cx, .bool rj, .slice ea en ec, .int .i64 si, .int .i64 st, .slice sa sn sc]] w fun r w' => ∃ u, r = .returned (.tuple #[u, .int .i64 6]) ∧ Sl w'.heap.size w' u [] ∧ Below w.heap.size w w' := by
  have ck1 := fun w' => refKindNo_any kd fr to tm ix lt cm hi cx rj ea en ec si st sa sn sc w' hK
  have HB0 : Hid (∀ o0, Below w.heap.size w (w.alloc o0)) := fun _ => ((Below.refl _ w).alloc (by simp) _)
  go_enter Try.func48, Try.ntmps48
  go_wp2_with (go_at_call 50; refine (ck1 _).mono ?_; rintro e w1 ⟨rfl, hB1⟩)
  go_ret2
  exact ⟨_, rfl, Sl.nil _ _, (HB0.out _).trans (hB1.mono (HB0.out _).size)⟩

set_option maxRecDepth 100000 in
set_option maxHeartbeats 8000000 in
theorem putMsg_any (m : Msg) (N : Nat) (w : World) (h : m.At N w) (hN : N ≤ w.heap.size) : Calls Try.prog 47 #[.agg #[], m.v] w fun r w' => ∃ u, r = .returned (.tuple #[u, .int .i64 (m.ck : Int)]) ∧ Ow w.heap.size w' u (if m.ck = 0 then m.tx else []) ∧ Below w.heap.size w w' := by
  obtain ⟨kd, fr, to, tm, ix, lt, cm, hi, cx, rj, ea, ec, es, si, st, sa, sc, sd⟩ := m
  obtain ⟨hE, hD⟩ := h
  rcases kinds kd with hk | rfl | rfl | rfl | rfl | rfl | rfl | rfl
  · have := ck_no (m := ⟨kd, fr, to, tm, ix, lt, cm, hi, cx, rj, ea, ec, es, si, st, sa, sc, sd⟩) hk
    rw [this, if_neg (by decide)]; exact putKindNo_any kd fr to tm ix lt cm hi cx rj ea es.length ec si st sa sd.length sc w hk
  · exact putM1_any fr to tm ix lt cm hi cx rj ea es.length ec si st sa sd.length sc w
  · exact putM2_any fr to tm ix lt cm hi cx rj ea es.length ec si st sa sd.length sc w
  · exact putM3_any fr to tm ix lt cm hi cx rj ea ec es si st sa sd.length sc w N hE hN
  · exact putM4_any fr to tm ix lt cm hi cx rj ea es.length ec si st sa sd.length sc w
  · exact putM5_any fr to tm ix lt cm hi cx rj ea es.length ec si st sa sd.length sc w
  · exact putM6_any fr to tm ix lt cm hi cx rj ea es.length ec si st sa sd.length sc w
  · exact putM7_any fr to tm ix lt cm hi cx rj ea es.length ec si st sa sc sd w N hD hN

set_option maxRecDepth 100000 in
set_option maxHeartbeats 8000000 in
theorem refPutMsg_any (m : Msg) (N : Nat) (w : World) (h : m.At N w) (hN : N ≤ w.heap.size) (hz : m.es.length ≤ 1000000) : Calls Try.prog 48 #[m.v] w fun r w' => ∃ u, r = .returned (.tuple #[u, .int .i64 (m.ck : Int)]) ∧ Sl w'.heap.size w' u (if m.ck = 0 then m.tx else []) ∧ Below w.heap.size w w' := by
  obtain ⟨kd, fr, to, tm, ix, lt, cm, hi, cx, rj, ea, ec, es, si, st, sa, sc, sd⟩ := m
  obtain ⟨hE, hD⟩ := h
  rcases kinds kd with hk | rfl | rfl | rfl | rfl | rfl | rfl | rfl
  · have := ck_no (m := ⟨kd, fr, to, tm, ix, lt, cm, hi, cx, rj, ea, ec, es, si, st, sa, sc, sd⟩) hk
    rw [this, if_neg (by decide)]; exact refPutKindNo_any kd fr to tm ix lt cm hi cx rj ea es.length ec si st sa sd.length sc w hk
  · exact refPutM1_any fr to tm ix lt cm hi cx rj ea ec es si st sa sc sd N w hE hD hN hz
  · exact refPutM2_any fr to tm ix lt cm hi cx rj ea ec es si st sa sc sd N w hE hD hN hz
  · exact refPutM3_any fr to tm ix lt cm hi cx rj ea ec es si st sa sc sd N w hE hD hN hz
  · exact refPutM4_any fr to tm ix lt cm hi cx rj ea ec es si st sa sc sd N w hE hD hN hz
  · exact refPutM5_any fr to tm ix lt cm hi cx rj ea ec es si st sa sc sd N w hE hD hN hz
  · exact refPutM6_any fr to tm ix lt cm hi cx rj ea ec es si st sa sc sd N w hE hD hN hz
  · exact refPutM7_any fr to tm ix lt cm hi cx rj ea ec es si st sa sc sd N w hE hD hN hz

theorem sameMsgs_any (m n : Msg) (N : Nat) (w : World) (h1 : m.At N w) (h2 : n.At N w) (hN : N ≤ w.heap.size) (hz : m.es.length ≤ 1000000) :
    Calls Try.prog 53 #[m.v, n.v] w fun e w' => ∃ t : Bool, e = .returned (.bool t) ∧ (t = true ↔ m.says = n.says) ∧ Below w.heap.size w w' := by
  refine (sameMsg_any m.kd m.fr m.to m.tm m.ix m.lt m.cm m.hi m.cx m.rj m.ea m.ec m.es m.si m.st m.sa m.sc m.sd n.kd n.fr n.to n.tm n.ix n.lt n.cm n.hi n.cx n.rj n.ea n.ec n.es n.si n.st n.sa n.sc n.sd N w h1.1 h2.1 h1.2 h2.2 hN hz).mono ?_
  rintro e w' ⟨rfl, hB⟩
  refine ⟨_, rfl, ?_, hB⟩
  simp only [Msg.says, Bool.and_eq_true, beq_iff_eq, decide_eq_true_eq, Prod.mk.injEq]
  constructor
  · rintro ⟨⟨⟨⟨⟨⟨⟨⟨⟨⟨⟨a1, a2⟩, a3⟩, a4⟩, ⟨⟨b1, b2⟩, b3⟩⟩, c1⟩, d1⟩, d2⟩, d3⟩, d4⟩, d5⟩, d6⟩
    exact ⟨⟨a1, a2, a3, a4, d1, d2, d3, d4, d5⟩, d6, c1, b2, b3, b1⟩
  · rintro ⟨⟨a1, a2, a3, a4, d1, d2, d3, d4, d5⟩, d6, c1, b2, b3, b1⟩
    exact ⟨⟨⟨⟨⟨⟨⟨⟨⟨⟨⟨a1, a2⟩, a3⟩, a4⟩, ⟨⟨b1, b2⟩, b3⟩⟩, c1⟩, d1⟩, d2⟩, d3⟩, d4⟩, d5⟩, d6⟩

theorem slightMsg_any (m : Msg) (N : Nat) (w : World) (h : m.At N w) (hN : N ≤ w.heap.size) (hs : m.sd.length ≤ 9223372036854775807) (hz : m.es.length ≤ 9223372036854775807) : Calls Try.prog 46 #[m.v] w fun r w' => SlightP m.sd m.es r ∧ Below w.heap.size w w' :=
  slight_any m.kd m.fr m.to m.tm m.ix m.lt m.cm m.hi m.cx m.rj m.ea m.ec m.es m.si m.st m.sa m.sc m.sd N w h.1 hN hs hz

end Go.Proofs.Ytfnnbfgfmbiabaa

