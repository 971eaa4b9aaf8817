/-
  The first wal of the law, plainly. The first wal of the law, walked.
-/
import Derived.Test.YtnahghldlkjleaaGreatDoorXU
import Derived.Lib.SlBytesConst
namespace Go.Proofs.YtnahghldlkjleaaGreatDoor
open Go.RowKit
set_option linter.unusedVariables false

def p00 : PD := ⟨[], 0, false⟩
def X00 : WS := ⟨p00, 64, [], LP0, false⟩
def p01 : PD := (doCreate p00 (nmL 1)).2
def p02 : PD := (doAppend p01 (nmL 1) (txsB [LP0.head 1])).2
def p03 : PD := (doSync p02 (nmL 1)).2
def X01 : WS := (X00.begun 1 p01).headed p03
theorem do01 : doCreate p00 (nmL 1) = (0, p01) := Prod.ext (by kernel_rfl) rfl
theorem do02 : doAppend p01 (nmL 1) (txsB [LP0.head 1]) = (0, p02) := Prod.ext (by kernel_rfl) rfl
theorem do03 : doSync p02 (nmL 1) = (0, p03) := Prod.ext (by kernel_rfl) rfl

def eA : Ent := ⟨1, 1, 0, none, 0, []⟩
def eB (a : Option Addr) (c : Nat) : Ent := ⟨1, 2, 1, a, c, [97, 98]⟩
def Ba (a : Option Addr) (cp : Nat) (xa : Option Addr) (xc : Nat) : Bt := ⟨true, 1, 1, 0, 0, 0, a, cp, [eA, eB xa xc]⟩
theorem Ba_chk (a : Option Addr) (cp : Nat) (xa : Option Addr) (xc : Nat) : (Ba a cp xa xc).chk X01.J = 0 := by kernel_rfl
theorem X01_len : X01.sg.length = 1 := by kernel_rfl
theorem X01_last : X01.last.n = 1 := by kernel_rfl
theorem X01_b : decide (X01.last.b < 64) = true := by kernel_rfl
theorem X01_full : X01.full = 64 := by kernel_rfl
theorem X01_roll : X01.rolled = X01 := by
  have := of_decide_eq_true X01_b
  unfold WS.rolled
  rw [if_neg (by rw [X01_full]; omega)]
theorem Ba_recs (a : Option Addr) (cp : Nat) (xa : Option Addr) (xc : Nat) : X01.recs (Ba a cp xa xc) = [rSt 1 1 1 0, rEn 1 eA, rEn 1 (eB xa xc)] := by
  have h : X01.recs (Ba a cp xa xc) = (Ba a cp xa xc).recs LP0 1 (Ba a cp xa xc).es := by
    show (Ba a cp xa xc).recs X01.J X01.last.n _ = _
    rw [X01_last]
    rfl
  exact h.trans (by kernel_rfl)
theorem g0 : Rng 0 := ⟨Int.le_refl _, by omega⟩
theorem g1 : Rng 1 := ⟨by omega, by omega⟩
theorem ex (xa : Option Addr) (xc : Nat) : eCk (eB xa xc).says = 0 := by kernel_rfl
theorem ea : eCk eA.says = 0 := by kernel_rfl
theorem Ba_app (xa : Option Addr) (xc : Nat) : (doAppend X01.p (nmL X01.last.n) (txsB [rSt 1 1 1 0, rEn 1 eA, rEn 1 (eB xa xc)])).1 = 0 := by kernel_rfl
theorem Ba_ok (a : Option Addr) (cp : Nat) (xa : Option Addr) (xc : Nat) (h1 : 2 ≤ cp) (h2 : cp ≤ maxLen) : PutOk X01 (Ba a cp xa xc) where
  hn := fun e => by have := X01_len; rw [e] at this; cases this
  few := by rw [X01_len]; omega
  hl := by rw [X01_last]; omega
  hb := by have := of_decide_eq_true X01_b; omega
  cp := ⟨h1, h2⟩
  hd := by
    intro e he
    rcases List.mem_cons.1 he with rfl | he
    · show 0 ≤ _; omega
    · rcases List.mem_cons.1 he with rfl | he
      · show 2 ≤ _; omega
      · cases he
  len := by show 2 ≤ _; omega
  roll := fun h => by have := of_decide_eq_true X01_b; rw [X01_full] at h; omega
  fit := by
    rw [X01_roll, Ba_recs]
    have n12 : ¬ (1 : Nat) = 2 := by decide
    refine ⟨⟨(by show 1 ≤ 3; omega), ⟨g1, g1, g0⟩, ⟨g0, g0⟩, (fun e => absurd e n12), (by show 1 ≤ _; omega)⟩, (by decide), ⟨(by show 2 ≤ 3; omega), ⟨g0, g0, g0⟩, ⟨g0, g0⟩, (fun _ => ⟨ea, ?_⟩), (by show 1 ≤ _; omega)⟩, ?_, ⟨(by show 2 ≤ 3; omega), ⟨g0, g0, g0⟩, ⟨g0, g0⟩, (fun _ => ⟨ex _ _, ?_⟩), (by show 1 ≤ _; omega)⟩, ?_, trivial⟩
    · exact of_decide_eq_true (p := (1 : Int) ≤ 1 ∧ (1 : Int) ≤ (X01.J.take (rSt 1 1 1 0)).li + 1) (by kernel_rfl)
    · exact of_decide_eq_true (by kernel_rfl)
    · exact of_decide_eq_true (p := (1 : Int) ≤ 2 ∧ (2 : Int) ≤ ((X01.J.take (rSt 1 1 1 0)).take (rEn 1 eA)).li + 1) (by kernel_rfl)
    · exact of_decide_eq_true (by kernel_rfl)
  num := by
    rw [X01_roll, Ba_recs]
    intro r hr
    have n12 : ¬ (1 : Nat) = 2 := by decide
    rcases List.mem_cons.1 hr with rfl | hr
    · exact ⟨(by show 1 ≤ 3; omega), (by show 1 ≤ _; omega), ⟨g1, g1, g0⟩, ⟨g0, g0⟩, (fun e => absurd e n12)⟩
    rcases List.mem_cons.1 hr with rfl | hr
    · exact ⟨(by show 2 ≤ 3; omega), (by show 1 ≤ _; omega), ⟨g0, g0, g0⟩, ⟨g0, g0⟩, (fun e => ea)⟩
    rcases List.mem_cons.1 hr with rfl | hr
    · exact ⟨(by show 2 ≤ 3; omega), (by show 1 ≤ _; omega), ⟨g0, g0, g0⟩, ⟨g0, g0⟩, (fun e => ex _ _)⟩
    cases hr
  app := fun _ => by rw [X01_roll, Ba_recs]; exact Ba_app xa xc

/-- Behind the first batch. -/
def X02 : WS := { X01.put (Ba none 2 none 2) with br := false }
theorem put_Ba (a : Option Addr) (cp : Nat) (xa : Option Addr) (xc : Nat) : { X01.put (Ba a cp xa xc) with br := false } = X02 := by
  unfold X02 WS.put
  rw [X01_roll, Ba_recs, Ba_recs]
  kernel_rfl
theorem X02_li : X02.J.li = 2 := by kernel_rfl
theorem X02_lt : X02.J.lt = 1 := by kernel_rfl
theorem X02_b : sumB X02.sg = 57 := by kernel_rfl
theorem X02_n : X02.sg.map Sg.n = [1] := by kernel_rfl
theorem X02_nm : X02.sg.map Sg.nm = [nmL 1] := by kernel_rfl
theorem X02_len : X02.sg.length = 1 := by kernel_rfl
theorem X02_last : X02.last.n = 1 := by kernel_rfl
def p04 : PD := (doSync X02.p (nmL 1)).2
theorem do04 : doSync X02.p (nmL 1) = (0, p04) := Prod.ext (by kernel_rfl) rfl
/-- Behind the sync. -/
def X03 : WS := { X02 with p := p04, br := false }
def eD4 : Ent := ⟨1, 4, 0, none, 0, []⟩
def Bb (a : Option Addr) (cp : Nat) : Bt := ⟨false, 0, 0, 0, 0, 0, a, cp, [eD4]⟩
theorem Bb_chk (a : Option Addr) (cp : Nat) : (Bb a cp).chk X03.J = 13 := by kernel_rfl
theorem nmL1 : (nmL 1).toArray = #[119, 97, 108, 45, 48, 48, 48, 48, 48, 48, 48, 49] := by kernel_rfl
end Go.Proofs.YtnahghldlkjleaaGreatDoor
namespace Go.Proofs.YtnahghldlkjleaaGreatDoor
open Go.RowKit
set_option linter.unusedVariables false

/-- A wal that is newer than all blocks below N. -/
structure New (w0 w : World) (wb : Nat) (X : WS) : Prop where
  q : ∃ A d, Wl A w wb d X ∧ ∀ i, A i → w0.heap.size ≤ i
  B : Below w0.heap.size w0 w
theorem New.below {w0 w w' : World} {wb : Nat} {X : WS} (h : New w0 w wb X) (hB : Below w.heap.size w w') : New w0 w' wb X := by
  obtain ⟨⟨A, d, h1, h2⟩, h3⟩ := h
  exact ⟨⟨A, d, h1.below hB, h2⟩, h3.trans (hB.mono h3.size)⟩
theorem New.th {A : Nat → Prop} {w0 w w' : World} {wb d : Nat} {X X' : WS} (hA : ∀ i, A i → w0.heap.size ≤ i) (hB : Below w0.heap.size w0 w) (h : Wth A w w' wb d X') : New w0 w' wb X' := by
  refine ⟨⟨_, d, h.q, ?_⟩, hB.trans (h.out.below hB.size hA)⟩
  rintro i (hi | hi)
  · exact hA i hi
  · exact Nat.le_trans hB.size hi.1

theorem out_heap {A : Nat → Prop} {w W : World} (hO : Out A w W) {i : Nat} {o : Obj} (h : w.heap[i]? = some o) (hn : ¬ A i) : W.heap[i]? = some o := (hO.block i (Array.getElem?_eq_some_iff.1 h).1 hn).trans h

/-- The entries of the first batch, where they lie. -/
theorem ents_Ba {W : World} {g1 g2 : Nat} (h1 : W.heap[g1]? = some (.cells #[.int .u8 97, .int .u8 98] 5 (2, 3))) (h2 : W.heap[g2]? = some (.cells #[.int .i64 1, .int .i64 1, .int .i64 0, .slice none 0 0, .int .i64 1, .int .i64 2, .int .i64 1, .slice (some ⟨g1, 0, none⟩) 2 2] 88 (0, 0))) :
    EntsAt W.heap.size W (some ⟨g2, 0, none⟩) [eA, eB (some ⟨g1, 0, none⟩) 2] := by
  have l1 := (Array.getElem?_eq_some_iff.1 h1).1
  have l2 := (Array.getElem?_eq_some_iff.1 h2).1
  refine .inr ⟨g2, 0, rfl, l2, fun i hi => ?_⟩
  have hi2 : i = 0 ∨ i = 1 := by
    have : i < 2 := hi
    omega
  rcases hi2 with rfl | rfl
  · refine ⟨by simp only [World.cell?, h2]; rfl, by simp only [World.cell?, h2]; rfl, by simp only [World.cell?, h2]; rfl, by simp only [World.cell?, h2]; rfl, none, 0, rfl, Nat.le_refl _, by unfold maxLen; omega, .inl rfl⟩
  · refine ⟨by simp only [World.cell?, h2]; rfl, by simp only [World.cell?, h2]; rfl, by simp only [World.cell?, h2]; rfl, by simp only [World.cell?, h2]; rfl, some ⟨g1, 0, none⟩, 2, rfl, Nat.le_refl _, by unfold maxLen; omega, .inr ⟨g1, 0, rfl, l1, fun j hj => ?_⟩⟩
    have hj2 : j = 0 ∨ j = 1 := by
      have : j < 2 := hj
      omega
    rcases hj2 with rfl | rfl
    · simp only [World.cell?, h1]; rfl
    · simp only [World.cell?, h1]; rfl
theorem ents_Bb {W : World} {g2 : Nat} (h2 : W.heap[g2]? = some (.cells #[.int .i64 1, .int .i64 4, .int .i64 0, .slice none 0 0] 88 (0, 0))) :
    EntsAt W.heap.size W (some ⟨g2, 0, none⟩) [eD4] := by
  have l2 := (Array.getElem?_eq_some_iff.1 h2).1
  refine .inr ⟨g2, 0, rfl, l2, fun i hi => ?_⟩
  obtain rfl : i = 0 := by
    have : i < 1 := hi
    omega
  exact ⟨by simp only [World.cell?, h2]; rfl, by simp only [World.cell?, h2]; rfl, by simp only [World.cell?, h2]; rfl, by simp only [World.cell?, h2]; rfl, none, 0, rfl, Nat.le_refl _, by unfold maxLen; omega, .inl rfl⟩

theorem first_new (w : World) : Calls Tryz.prog 11 #[] w fun e w1 => ∃ d, e = .returned (.pointer (some ⟨d, 0, none⟩)) ∧ Hid (∃ S k, DkC S w1 d k ∧ k.pd = p00 ∧ (∀ i, S i → w.heap.size ≤ i) ∧ Below w.heap.size w w1) := by
  refine (new_any w).mono ?_
  rintro e w1 ⟨rfl, rfl⟩
  exact ⟨_, rfl, _, _, new_dk w, rfl, fun i hi => hi.1, ((Below.refl _ w).alloc (Nat.le_refl _) _).alloc (by simp) _⟩
theorem first_open {w w1 : World} {d : Nat} (hv : Vars w) (h : ∃ S k, DkC S w1 d k ∧ k.pd = p00 ∧ (∀ i, S i → w.heap.size ≤ i) ∧ Below w.heap.size w w1) :
    Calls Tryz.prog 30 #[.pointer (some ⟨d, 0, none⟩), .int .i64 64] w1 fun e w' => ∃ wb, e = .returned (.tuple #[.pointer (some ⟨wb, 0, none⟩), .bool false, .int .i64 0]) ∧ Hid (New w w' wb X01) := by
  obtain ⟨S, k, hd, hp, hS, hB⟩ := h
  refine (Open_new hd (fun V hV => ?_) 64 ⟨by omega, by omega⟩ ?_ X00 X01 (by rw [hp]; rfl) p01 p02 p03 (by rw [hp]; exact do01) do02 do03 rfl).mono ?_
  · exact hv.below (hB.trans (hV.below hB.size hS))
  · rw [hp]
    exact fun f hf => by cases hf
  · rintro e w' ⟨A, wb, rfl, h1, h2, h3⟩
    refine ⟨wb, rfl, ⟨A, d, h1, fun i hi => (h3 i hi).elim (hS i) (fun h => Nat.le_trans hB.size h)⟩, hB.trans (h2.below hB.size hS)⟩
theorem first_app {w w2 : World} {wb : Nat} (h : New w w2 wb X01) :
    Calls Tryz.prog 34 #[.pointer (some ⟨wb, 0, none⟩), .agg #[.bool true, .int .i64 1, .int .i64 1, .int .i64 0, .int .i64 0, .int .i64 0, .slice (some ⟨w2.heap.size + 1, 0, none⟩) 2 2]] ((w2.alloc (.cells #[.int .u8 97, .int .u8 98] 5 (2, 3))).alloc (.cells #[.int .i64 1, .int .i64 1, .int .i64 0, .slice none 0 0, .int .i64 1, .int .i64 2, .int .i64 1, .slice (some ⟨w2.heap.size, 0, none⟩) 2 2] 88)) fun e w' => e = .returned (.int .i64 0) ∧ Hid (New w w' wb X02) := by
  obtain ⟨⟨A, d, hq, hA⟩, hB⟩ := h
  obtain ⟨W, hW⟩ : ∃ W, ((w2.alloc (.cells #[.int .u8 97, .int .u8 98] 5 (2, 3))).alloc (.cells #[.int .i64 1, .int .i64 1, .int .i64 0, .slice none 0 0, .int .i64 1, .int .i64 2, .int .i64 1, .slice (some ⟨w2.heap.size, 0, none⟩) 2 2] 88)) = W := ⟨_, rfl⟩
  have hx := two_new w2 (.cells #[.int .u8 97, .int .u8 98] 5 (2, 3)) (.cells #[.int .i64 1, .int .i64 1, .int .i64 0, .slice none 0 0, .int .i64 1, .int .i64 2, .int .i64 1, .slice (some ⟨w2.heap.size, 0, none⟩) 2 2] 88)
  have hBW : Below w2.heap.size w2 W := by rw [← hW]; exact ((Below.refl _ w2).alloc (Nat.le_refl _) _).alloc (by simp) _
  rw [hW] at hx ⊢
  refine (append_ok (hq.below hBW) rfl (Ba (some ⟨w2.heap.size + 1, 0, none⟩) 2 (some ⟨w2.heap.size, 0, none⟩) 2) (Ba_chk _ _ _ _) (Ba_ok _ _ _ _ (Nat.le_refl _) (by unfold maxLen; omega)) (fun V hV => ?_)).mono ?_
  · have na : ∀ i, w2.heap.size ≤ i → ¬ A i := fun i hi ha => by have := hq.inn i ha; omega
    exact ents_Ba (out_heap hV hx.1 (na _ (Nat.le_refl _))) (out_heap hV hx.2 (na _ (by omega)))
  · rintro e w' ⟨rfl, hT⟩
    rw [put_Ba] at hT
    exact ⟨rfl, New.th (X := X01) hA (hB.trans (hBW.mono hB.size)) hT⟩
theorem first_sync {w w3 : World} {wb : Nat} (h : New w w3 wb X02) : Calls Tryz.prog 18 #[.pointer (some ⟨wb, 0, none⟩)] w3 fun e w' => e = .returned (.int .i64 0) ∧ Hid (New w w' wb X03) := by
  obtain ⟨⟨A, d, hq, hA⟩, hB⟩ := h
  refine (sync_ok hq rfl (fun e => by have := X02_len; rw [e] at this; cases this) (by rw [X02_len]; omega) (by rw [X02_last]; omega) p04 (by rw [X02_last]; exact do04)).mono ?_
  rintro e w' ⟨rfl, hT⟩
  exact ⟨rfl, New.th (X := X02) hA hB hT⟩
theorem first_gap {w w4 : World} {wb : Nat} (h : New w w4 wb X03) : Calls Tryz.prog 34 #[.pointer (some ⟨wb, 0, none⟩), .agg #[.bool false, .int .i64 0, .int .i64 0, .int .i64 0, .int .i64 0, .int .i64 0, .slice (some ⟨w4.heap.size, 0, none⟩) 1 1]] (w4.alloc (.cells #[.int .i64 1, .int .i64 4, .int .i64 0, .slice none 0 0] 88)) fun e w' => e = .returned (.int .i64 13) ∧ Hid (New w w' wb X03) := by
  have hn := heap_alloc_new w4 (.cells #[.int .i64 1, .int .i64 4, .int .i64 0, .slice none 0 0] 88)
  have hBW : Below w4.heap.size w4 (w4.alloc (.cells #[.int .i64 1, .int .i64 4, .int .i64 0, .slice none 0 0] 88)) := (Below.refl _ w4).alloc (Nat.le_refl _) _
  obtain ⟨⟨A, d, hq, hA⟩, hB⟩ := h
  have hc := Bb_chk (some ⟨w4.heap.size, 0, none⟩) 1
  have := append_err (hq.below hBW) rfl (Bb (some ⟨w4.heap.size, 0, none⟩) 1) (by rw [hc]; decide) (ents_Bb hn) ⟨Nat.le_refl _, by unfold maxLen; show 1 ≤ _; omega⟩ (by show 1 ≤ _; omega)
  rw [hc] at this
  refine this.mono ?_
  rintro e w' ⟨rfl, h2⟩
  exact ⟨rfl, New.below ⟨⟨A, d, hq, hA⟩, hB⟩ (hBW.trans (h2.mono hBW.size))⟩
theorem first_last {w w5 : World} {wb : Nat} (h : New w w5 wb X03) : Calls Tryz.prog 38 #[.pointer (some ⟨wb, 0, none⟩)] w5 fun e w' => e = .returned (.tuple #[.int .i64 2, .int .i64 1]) ∧ Hid (New w w' wb X03) := by
  obtain ⟨⟨A, d, hq, hA⟩, hB⟩ := h
  refine (Last_any hq).mono ?_
  rintro e w' ⟨rfl, q, rfl⟩
  refine ⟨?_, New.below ⟨⟨A, d, hq, hA⟩, hB⟩ (below_drewN (Below.refl _ _) _)⟩
  rw [show X03.J.li = 2 from X02_li, show X03.J.lt = 1 from X02_lt]
theorem first_segs {w w6 : World} {wb : Nat} (h : New w w6 wb X03) : Calls Tryz.prog 33 #[.pointer (some ⟨wb, 0, none⟩)] w6 fun e w' => ∃ g cap, e = .returned (.slice (some ⟨g, 0, none⟩) 1 cap) ∧ Hid (∀ W, Below w'.heap.size w' W → W.cell? ⟨g, 0, none⟩ = some (.string ⟨#[119, 97, 108, 45, 48, 48, 48, 48, 48, 48, 48, 49]⟩)) ∧ Hid (New w w' wb X03) := by
  have h0 := h
  obtain ⟨⟨A, d, hq, hA⟩, hB⟩ := h
  refine (Segments_any hq (by show X02.sg.length ≤ _; rw [X02_len]; omega) ?_).mono ?_
  · intro s hs
    have : s.n ∈ X02.sg.map Sg.n := List.mem_map.2 ⟨s, hs, rfl⟩
    rw [X02_n] at this
    simp at this
    omega
  · rintro e w' ⟨v, rfl, hr, hB'⟩
    have hr' : Ro RS w6.heap.size w' v [nmL 1] := by rw [← X02_nm]; exact hr
    obtain ⟨g, cap, rfl, -, hg, -, hc⟩ := hr'.at0 (by decide)
    refine ⟨g, cap, rfl, fun W hW => ?_, h0.below hB'⟩
    rw [← nmL1]
    exact (hW.cell (p := ⟨g, 0, none⟩) hg).trans (hc 0 0 (by decide) (by decide))
theorem first_bytes {w w7 : World} {wb : Nat} (h : New w w7 wb X03) : Calls Tryz.prog 42 #[.pointer (some ⟨wb, 0, none⟩)] w7 fun e w' => e = .returned (.int .i64 57) ∧ Hid (Below w7.heap.size w7 w' ∧ New w w' wb X03) := by
  have h0 := h
  obtain ⟨⟨A, d, hq, hA⟩, hB⟩ := h
  have hb : sumB X03.sg = 57 := X02_b
  have := Bytes_any hq (by show X02.sg.length ≤ _; rw [X02_len]; omega) ?_
  · rw [hb] at this
    exact this.mono fun e w' ⟨he, h2⟩ => ⟨he, h2, h0.below h2⟩
  · intro s hs
    have h2 : s.b ∈ X02.sg.map Sg.b := List.mem_map.2 ⟨s, hs, rfl⟩
    rw [show X02.sg.map Sg.b = [57] from by kernel_rfl] at h2
    simp at h2
    omega

set_option maxRecDepth 100000 in
set_option maxHeartbeats 1000000 in
theorem first_any (w : World) (hv : Vars w) : Calls Tryz.prog 9 #[] w fun e w' => e = .returned (.bool true) ∧ Below w.heap.size w w' := by
  have HN : Hid _ := first_new w
  have HO : Hid (∀ w1 d, Hid _ → Calls _ _ _ _ _) := fun w1 d (h : Hid _) => first_open (w := w) (w1 := w1) (d := d) hv h.out
  have HA : Hid (∀ w2 wb, Hid (New w w2 wb X01) → Calls _ _ _ _ _) := fun w2 wb h => first_app h.out
  have HS : Hid (∀ w2 wb, Hid (New w w2 wb X02) → Calls _ _ _ _ _) := fun w2 wb h => first_sync h.out
  have HG : Hid (∀ w2 wb, Hid (New w w2 wb X03) → Calls _ _ _ _ _) := fun w2 wb h => first_gap h.out
  have HL : Hid (∀ w2 wb, Hid (New w w2 wb X03) → Calls _ _ _ _ _) := fun w2 wb h => first_last h.out
  have HSe : Hid (∀ w2 wb, Hid (New w w2 wb X03) → Calls _ _ _ _ _) := fun w2 wb h => first_segs h.out
  have HB : Hid (∀ w2 wb, Hid (New w w2 wb X03) → Calls _ _ _ _ _) := fun w2 wb h => first_bytes h.out
  have HE : Hid (∀ W W' wb, Hid (Below W.heap.size W W' ∧ New w W' wb X03) → Below W.heap.size W W') := fun _ _ _ h => h.out.1
  clear hv
  have hcv := fun (w : World) (C : Array Value) (n c : Nat) => Lib.run_convert_bytes_const (P := Tryz.prog) w 55 5 C n c Tryz.underlying55 Tryz.underlying5
  go_enter Tryz.func9, Tryz.ntmps9
  go_wp2_with (first
    | (go_at_call 11; refine Calls.mono HN.out ?_; rintro e w1 ⟨d, rfl, HD⟩)
    | (go_at_call 30; refine Calls.mono (HO.out w1 d HD) ?_; rintro e w2 ⟨wb, rfl, H2⟩)
    | (go_at_call 34; refine Calls.mono (HG.out w4 wb H4) ?_; rintro e w5 ⟨rfl, H5⟩)
    | (go_at_call 34; refine Calls.mono (HA.out w2 wb H2) ?_; rintro e w3 ⟨rfl, H3⟩)
    | (go_at_call 18; refine Calls.mono (HS.out w3 wb H3) ?_; rintro e w4 ⟨rfl, H4⟩)
    | (go_at_call 38; refine Calls.mono (HL.out w5 wb H5) ?_; rintro e w6 ⟨rfl, H6⟩)
    | (go_at_call 33; refine Calls.mono (HSe.out w6 wb H6) ?_; rintro e w7 ⟨g, cap, rfl, HC, H7⟩)
    | (go_at_call 42; refine Calls.mono (HB.out w7 wb H7) ?_; rintro e w8 ⟨rfl, H8⟩; have k8 := HC.out w8 (HE.out _ _ _ H8))
    | (go_at_call 17; refine (num_any _ _).mono ?_; rintro e w9 ⟨rfl, hw⟩; subst w9)
    | fail)
  go_ret
  exact ⟨rfl, H8.out.2.B⟩
end Go.Proofs.YtnahghldlkjleaaGreatDoor
