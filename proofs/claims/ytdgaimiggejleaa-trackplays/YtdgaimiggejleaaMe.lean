/-
  What each call of a progress does.
-/
import Derived.Test.YtdgaimiggejleaaCm
namespace Go.Proofs.Ytdgaimiggejleaa
open Go.RowKit
set_option linter.unusedVariables false

theorem lt_of_cell {w : World} {g o : Nat} {v : Value} (h : w.cell? ⟨g, o, none⟩ = some v) : g < w.heap.size := by
  rcases Nat.lt_or_ge g w.heap.size with h2 | h2
  · exact h2
  · have : w.heap[g]? = none := Array.getElem?_eq_none h2
    simp [World.cell?, this] at h
theorem fld0 (a b c d e : Value) (w : World) : (Instr.field 68 (.agg #[a, b, c, d, e]) 0).run Try.prog w = .ok a w := by kernel_rfl
theorem fld1 (a b c d e : Value) (w : World) : (Instr.field 68 (.agg #[a, b, c, d, e]) 1).run Try.prog w = .ok b w := by kernel_rfl
theorem fld2 (a b c d e : Value) (w : World) : (Instr.field 68 (.agg #[a, b, c, d, e]) 2).run Try.prog w = .ok c w := by kernel_rfl
theorem fld3 (a b c d e : Value) (w : World) : (Instr.field 68 (.agg #[a, b, c, d, e]) 3).run Try.prog w = .ok d w := by kernel_rfl
theorem fld4 (a b c d e : Value) (w : World) : (Instr.field 68 (.agg #[a, b, c, d, e]) 4).run Try.prog w = .ok e w := by kernel_rfl
theorem PTh.after {N : Nat} {S : Nat → Prop} {w w1 w2 : World} {b : Nat} {p : PP} (hB : Below w.heap.size w w1) (h : PTh N S w1 w2 b p) (hN : N ≤ w.heap.size) : PTh N S w w2 b p := PTh.of (Out.of_below hB) h hN

/-- What holds of a progress whose numbers are in question. -/
structure PP.Ok (p : PP) : Prop where
  s0 : 0 ≤ p.st
  s2 : p.st ≤ 2
  m0 : 0 ≤ p.m
  mn : p.m < p.n
  n1 : p.n ≤ 4611686018427387905
  rm : 1 ≤ p.rm

theorem Match_any {N : Nat} {S : Nat → Prop} {w : World} {b : Nat} {p : PP} (h : Pg N S w b p) : Calls Try.prog 36 #[.pointer (some ⟨b, 0, none⟩)] w fun e w' => e = .returned (.int .i64 p.m) ∧ w' = w := by
  obtain ⟨d, ⟨⟨c0, c1, c2, c3, c4, c5⟩, cf⟩, -, -⟩ := h.cells
  clear h
  go_enter Try.func36, Try.ntmps36
  go_wp2
  go_ret
  exact ⟨rfl, rfl⟩
theorem Next_any {N : Nat} {S : Nat → Prop} {w : World} {b : Nat} {p : PP} (h : Pg N S w b p) : Calls Try.prog 37 #[.pointer (some ⟨b, 0, none⟩)] w fun e w' => e = .returned (.int .i64 p.n) ∧ w' = w := by
  obtain ⟨d, ⟨⟨c0, c1, c2, c3, c4, c5⟩, cf⟩, -, -⟩ := h.cells
  clear h
  go_enter Try.func37, Try.ntmps37
  go_wp2
  go_ret
  exact ⟨rfl, rfl⟩
theorem State_any {N : Nat} {S : Nat → Prop} {w : World} {b : Nat} {p : PP} (h : Pg N S w b p) : Calls Try.prog 38 #[.pointer (some ⟨b, 0, none⟩)] w fun e w' => e = .returned (.int .i64 p.st) ∧ w' = w := by
  obtain ⟨d, ⟨⟨c0, c1, c2, c3, c4, c5⟩, cf⟩, -, -⟩ := h.cells
  clear h
  go_enter Try.func38, Try.ntmps38
  go_wp2
  go_ret
  exact ⟨rfl, rfl⟩
/-- May. -/
def PP.may (p : PP) : Bool := if p.st = 0 then !p.pa else if p.st = 1 then !decide (p.W.length = p.rm) else false
/-- Sent. -/
def PP.sent (p : PP) (x : Int) : PP := if p.st = 0 then { p with pa := true } else if p.st = 1 then p.send x else p
/-- Rejected. -/
def PP.rejY (p : PP) (x : Int) : Bool := if p.st = 0 then decide (x = p.n - 1) else if p.st = 1 then decide (p.m < x) else false
def PP.rej (p : PP) (x y : Int) : PP := if p.st = 0 then p.back x y else if p.st = 1 then (if p.m < x then p.re 0 else p) else p
/-- Beat. -/
def PP.beat (p : PP) : PP := if p.st = 0 then { p with pa := false } else if p.st = 1 then ({ p with pa := false } : PP).let1 else ({ p with pa := false } : PP).re 0
/-- Acked: ahead of what the state does. -/
def PP.ack (p : PP) (x : Int) : PP := { p with m := max p.m x, n := max p.n (max p.m x + 1), pa := false, W := freeL p.W x }
def PP.acked (p : PP) (x : Int) : PP := if p.st = 0 then (if p.m ≤ x then (p.ack x).re 1 else p.ack x) else if p.st = 1 then p.ack x else (if p.sn ≤ max p.m x then (p.ack x).re 0 else p.ack x)
/-- Snap. -/
def PP.snap (p : PP) (x : Int) : PP := { p with st := 2, sn := x, W := [] }

set_option maxRecDepth 100000 in
theorem Snap_any {N : Nat} {S : Nat → Prop} {w : World} {b : Nat} {p : PP} (h : Pg N S w b p) (hN : N ≤ w.heap.size) (x : Int) :
    Calls Try.prog 34 #[.pointer (some ⟨b, 0, none⟩), .int .i64 x] w fun e w' => e = .returned (.tuple #[]) ∧ PTh N S w w' b (p.snap x) := by
  obtain ⟨d, ⟨⟨c0, c1, c2, c3, c4, c5⟩, cf⟩, hb, hq⟩ := h.cells
  obtain ⟨W1, hW1⟩ : ∃ W1, (w.setCell ⟨b, 1, none⟩ (.int .i64 2)).setCell ⟨b, 5, none⟩ (.int .i64 x) = W1 := ⟨_, rfl⟩
  have hO1 : Out (fun i => i = b) w W1 := by rw [← hW1]; exact Out.put (Out.put (Out.refl _ _) (by rfl)) (by rfl)
  have hb1 : W1.heap[b]? = some (.cells (({ p with st := 2, sn := x } : PP).row d) 65 (0, 0)) := by
    rw [← hW1]
    simpa [PP.row] using heap_set (heap_set hb 1 (.int .i64 2)) 5 (.int .i64 x)
  have hP1 : Pg N S W1 b { p with st := 2, sn := x } := h.turn hq hO1 hb1 rfl rfl
  have hN1 : N ≤ W1.heap.size := Nat.le_trans hN hO1.size
  have HC : Hid (Calls _ _ _ _ _) := wclear_any (hq.out hO1 (fun i hi => hi.2)) hN1
  have HE : Hid (∀ w2, WTh N (fun i => S i ∧ i ≠ b) W1 w2 d p.rm [] → PTh N S w w2 b (p.snap x)) := fun w2 ht => PTh.of (hO1.mono (by rintro i rfl; exact h.Sb)) (hP1.win hb1 hN1 ht) hN
  have HW1 : Hid (_ = W1) := hW1
  have k0 : W1.cell? ⟨b, 0, none⟩ = some (.pointer (some ⟨d, 0, none⟩)) := by simp [World.cell?, hb1, PP.row]
  clear h hb hq hO1 hb1 hP1 hN hN1 hW1
  go_enter Try.func34, Try.ntmps34
  go_wp2_with (first | (rw [HW1.out]; go_at_call 49; refine HC.out.mono ?_; rintro r w2 ⟨rfl, ht⟩; have HT := HE.out w2 ht; clear ht))
  go_returns
  exact ⟨rfl, HT⟩

set_option maxRecDepth 100000 in
theorem May_any {N : Nat} {S : Nat → Prop} {w : World} {b : Nat} {p : PP} (h : Pg N S w b p) (hN : N ≤ w.heap.size) (ho : p.Ok) :
    Calls Try.prog 39 #[.pointer (some ⟨b, 0, none⟩)] w fun e w' => e = .returned (.bool p.may) ∧ Below w.heap.size w w' := by
  obtain ⟨d, ⟨⟨c0, c1, c2, c3, c4, c5⟩, cf⟩, -, -⟩ := h.cells
  have hs : p.st = 0 ∨ p.st = 1 ∨ p.st = 2 := by have := ho.s0; have := ho.s2; omega
  have hm1 : p.m ≤ 4611686018427387904 := by have := ho.mn; have := ho.n1; omega
  have hn0 : 0 ≤ p.n := by have := ho.mn; have := ho.m0; omega
  have HP : Hid (∀ w1, Below w.heap.size w w1 → Pg N S w1 b p) := fun w1 hB => h.below hB
  have HL : Hid (∀ w1, Below w.heap.size w w1 → N ≤ w1.heap.size) := fun w1 hB => Nat.le_trans hN hB.size
  have HSG : Hid (∀ g, w.heap.size ≤ g → ¬ S g) := fun g hg hs => by have := h.inn g hs; omega
  have HNW : Hid (∀ st, p.st = st → 0 ≤ st → st ≤ 2 → Calls Try.prog 46 #[.pointer (some ⟨b, 0, none⟩)] w _) := fun st e h0 h2 => now_any b w st (h.inn _ h.Sb) (by rw [← e]; exact c1) h0 h2
  clear h c0 c1 c2 c3 c4 c5 cf
  rcases hs with hs | hs | hs
  · have HNw : Hid (Calls _ _ _ _ _) := HNW.out 0 hs (by omega) (by omega)
    have HR : Hid (Value.bool p.may = .bool (!p.pa)) := by show _ = _; simp [PP.may, hs]
    have HC : Hid (∀ w1 g, Below w.heap.size w w1 → w1.cell? ⟨g, 0, none⟩ = some (.pointer (some ⟨b, 0, none⟩)) → w.heap.size ≤ g → Calls Try.prog 69 #[.pointer (some ⟨g, 0, none⟩)] w1 fun e w' => e = .returned (.bool p.may) ∧ Below w.heap.size w w') := fun w1 g hB hg hgN => by
      have h1 := HP.out w1 hB
      have hN1 := HL.out w1 hB
      have hS := HSG.out g hgN
      have hgl := lt_of_cell hg
      refine (may0_any h1 hg).mono ?_
      rintro e w' ⟨rfl, ht⟩
      refine ⟨by rw [HR.out], ?_⟩
      subst ht; exact hB
    rw [HR.out] at HC ⊢
    clear HP HL HSG HNW hs HR
    have ff := fld0
    go_enter Try.func39, Try.ntmps39
    go_wp2_with (first
      | (go_at_call 46; refine HNw.out.mono ?_; rintro r w1 ⟨g, rfl, hB, hg, hgN⟩; have HB : Hid (Below _ _ _) := hB; have HG : Hid (World.cell? _ _ = _) := hg; have HGN : Hid (_ ≤ g) := hgN; simp only [actN, act0]; clear hB hg hgN)
      | (go_at_call 69; refine (HC.out w1 g HB.out HG.out HGN.out).mono ?_; rintro r w2 ⟨rfl, ht⟩; have HT : Hid _ := ht; clear ht))
    go_returns
    exact ⟨rfl, HT.out⟩
  · have HNw : Hid (Calls _ _ _ _ _) := HNW.out 1 hs (by omega) (by omega)
    have HR : Hid (Value.bool p.may = .bool (!decide (p.W.length = p.rm))) := by show _ = _; simp [PP.may, hs]
    have HC : Hid (∀ w1 g, Below w.heap.size w w1 → w1.cell? ⟨g, 0, none⟩ = some (.pointer (some ⟨b, 0, none⟩)) → w.heap.size ≤ g → Calls Try.prog 75 #[.pointer (some ⟨g, 0, none⟩)] w1 fun e w' => e = .returned (.bool p.may) ∧ Below w.heap.size w w') := fun w1 g hB hg hgN => by
      have h1 := HP.out w1 hB
      have hN1 := HL.out w1 hB
      have hS := HSG.out g hgN
      have hgl := lt_of_cell hg
      refine (may1_any h1 hg).mono ?_
      rintro e w' ⟨rfl, ht⟩
      refine ⟨by rw [HR.out], ?_⟩
      obtain ⟨n, rfl⟩ := ht; exact hB.trans ⟨rfl, rfl, rfl, Nat.le_refl _, fun _ _ => rfl⟩
    rw [HR.out] at HC ⊢
    clear HP HL HSG HNW hs HR
    have ff := fld0
    go_enter Try.func39, Try.ntmps39
    go_wp2_with (first
      | (go_at_call 46; refine HNw.out.mono ?_; rintro r w1 ⟨g, rfl, hB, hg, hgN⟩; have HB : Hid (Below _ _ _) := hB; have HG : Hid (World.cell? _ _ = _) := hg; have HGN : Hid (_ ≤ g) := hgN; simp only [actN, act1]; clear hB hg hgN)
      | (go_at_call 75; refine (HC.out w1 g HB.out HG.out HGN.out).mono ?_; rintro r w2 ⟨rfl, ht⟩; have HT : Hid _ := ht; clear ht))
    go_returns
    exact ⟨rfl, HT.out⟩
  · have HNw : Hid (Calls _ _ _ _ _) := HNW.out 2 hs (by omega) (by omega)
    have HR : Hid (Value.bool p.may = .bool false) := by show _ = _; simp [PP.may, hs]
    have HC : Hid (∀ w1 g, Below w.heap.size w w1 → w1.cell? ⟨g, 0, none⟩ = some (.pointer (some ⟨b, 0, none⟩)) → w.heap.size ≤ g → Calls Try.prog 83 #[] w1 fun e w' => e = .returned (.bool p.may) ∧ Below w.heap.size w w') := fun w1 g hB hg hgN => by
      have h1 := HP.out w1 hB
      have hN1 := HL.out w1 hB
      have hS := HSG.out g hgN
      have hgl := lt_of_cell hg
      refine (may2_any w1).mono ?_
      rintro e w' ⟨rfl, ht⟩
      refine ⟨by rw [HR.out], ?_⟩
      subst ht; exact hB
    rw [HR.out] at HC ⊢
    clear HP HL HSG HNW hs HR
    have ff := fld0
    go_enter Try.func39, Try.ntmps39
    go_wp2_with (first
      | (go_at_call 46; refine HNw.out.mono ?_; rintro r w1 ⟨g, rfl, hB, hg, hgN⟩; have HB : Hid (Below _ _ _) := hB; have HG : Hid (World.cell? _ _ = _) := hg; have HGN : Hid (_ ≤ g) := hgN; simp only [actN, act2]; clear hB hg hgN)
      | (go_at_call 83; refine (HC.out w1 g HB.out HG.out HGN.out).mono ?_; rintro r w2 ⟨rfl, ht⟩; have HT : Hid _ := ht; clear ht))
    go_returns
    exact ⟨rfl, HT.out⟩

set_option maxRecDepth 100000 in
theorem Sent_any {N : Nat} {S : Nat → Prop} {w : World} {b : Nat} {p : PP} (h : Pg N S w b p) (hN : N ≤ w.heap.size) (ho : p.Ok) (x : Int) (hx0 : 0 ≤ x) (hx1 : x ≤ 4611686018427387904) :
    Calls Try.prog 26 #[.pointer (some ⟨b, 0, none⟩), .int .i64 x] w fun e w' => e = .returned (.tuple #[]) ∧ PTh N S w w' b (p.sent x) := by
  obtain ⟨d, ⟨⟨c0, c1, c2, c3, c4, c5⟩, cf⟩, -, -⟩ := h.cells
  have hs : p.st = 0 ∨ p.st = 1 ∨ p.st = 2 := by have := ho.s0; have := ho.s2; omega
  have hm1 : p.m ≤ 4611686018427387904 := by have := ho.mn; have := ho.n1; omega
  have hn0 : 0 ≤ p.n := by have := ho.mn; have := ho.m0; omega
  have HP : Hid (∀ w1, Below w.heap.size w w1 → Pg N S w1 b p) := fun w1 hB => h.below hB
  have HL : Hid (∀ w1, Below w.heap.size w w1 → N ≤ w1.heap.size) := fun w1 hB => Nat.le_trans hN hB.size
  have HSG : Hid (∀ g, w.heap.size ≤ g → ¬ S g) := fun g hg hs => by have := h.inn g hs; omega
  have HNW : Hid (∀ st, p.st = st → 0 ≤ st → st ≤ 2 → Calls Try.prog 46 #[.pointer (some ⟨b, 0, none⟩)] w _) := fun st e h0 h2 => now_any b w st (h.inn _ h.Sb) (by rw [← e]; exact c1) h0 h2
  clear h c0 c1 c2 c3 c4 c5 cf
  rcases hs with hs | hs | hs
  · have HNw : Hid (Calls _ _ _ _ _) := HNW.out 0 hs (by omega) (by omega)
    have HR : Hid ((.tuple #[] : Value) = .tuple #[]) := rfl
    have HC : Hid (∀ w1 g, Below w.heap.size w w1 → w1.cell? ⟨g, 0, none⟩ = some (.pointer (some ⟨b, 0, none⟩)) → w.heap.size ≤ g → Calls Try.prog 70 #[.int .i64 x, .pointer (some ⟨g, 0, none⟩)] w1 fun e w' => e = .returned (.tuple #[]) ∧ PTh N S w w' b (p.sent x)) := fun w1 g hB hg hgN => by
      have h1 := HP.out w1 hB
      have hN1 := HL.out w1 hB
      have hS := HSG.out g hgN
      have hgl := lt_of_cell hg
      refine (sent0_any h1 hN1 hg x).mono ?_
      rintro e w' ⟨rfl, ht⟩
      refine ⟨rfl, ?_⟩
      rw [PP.sent, if_pos hs]; exact PTh.after hB ht hN
    clear HP HL HSG HNW hs HR
    have ff := fld1
    go_enter Try.func26, Try.ntmps26
    go_wp2_with (first
      | (go_at_call 46; refine HNw.out.mono ?_; rintro r w1 ⟨g, rfl, hB, hg, hgN⟩; have HB : Hid (Below _ _ _) := hB; have HG : Hid (World.cell? _ _ = _) := hg; have HGN : Hid (_ ≤ g) := hgN; simp only [actN, act0]; clear hB hg hgN)
      | (go_at_call 70; refine (HC.out w1 g HB.out HG.out HGN.out).mono ?_; rintro r w2 ⟨rfl, ht⟩; have HT : Hid _ := ht; clear ht))
    go_returns
    exact ⟨rfl, HT.out⟩
  · have HNw : Hid (Calls _ _ _ _ _) := HNW.out 1 hs (by omega) (by omega)
    have HR : Hid ((.tuple #[] : Value) = .tuple #[]) := rfl
    have HC : Hid (∀ w1 g, Below w.heap.size w w1 → w1.cell? ⟨g, 0, none⟩ = some (.pointer (some ⟨b, 0, none⟩)) → w.heap.size ≤ g → Calls Try.prog 77 #[.int .i64 x, .pointer (some ⟨g, 0, none⟩)] w1 fun e w' => e = .returned (.tuple #[]) ∧ PTh N S w w' b (p.sent x)) := fun w1 g hB hg hgN => by
      have h1 := HP.out w1 hB
      have hN1 := HL.out w1 hB
      have hS := HSG.out g hgN
      have hgl := lt_of_cell hg
      refine (sent1_any h1 hN1 hg hS hgl x hx0 hx1).mono ?_
      rintro e w' ⟨rfl, ht⟩
      refine ⟨rfl, ?_⟩
      rw [PP.sent, if_neg (by omega), if_pos hs]; exact PTh.after hB ht hN
    clear HP HL HSG HNW hs HR
    have ff := fld1
    go_enter Try.func26, Try.ntmps26
    go_wp2_with (first
      | (go_at_call 46; refine HNw.out.mono ?_; rintro r w1 ⟨g, rfl, hB, hg, hgN⟩; have HB : Hid (Below _ _ _) := hB; have HG : Hid (World.cell? _ _ = _) := hg; have HGN : Hid (_ ≤ g) := hgN; simp only [actN, act1]; clear hB hg hgN)
      | (go_at_call 77; refine (HC.out w1 g HB.out HG.out HGN.out).mono ?_; rintro r w2 ⟨rfl, ht⟩; have HT : Hid _ := ht; clear ht))
    go_returns
    exact ⟨rfl, HT.out⟩
  · have HNw : Hid (Calls _ _ _ _ _) := HNW.out 2 hs (by omega) (by omega)
    have HR : Hid ((.tuple #[] : Value) = .tuple #[]) := rfl
    have HC : Hid (∀ w1 g, Below w.heap.size w w1 → w1.cell? ⟨g, 0, none⟩ = some (.pointer (some ⟨b, 0, none⟩)) → w.heap.size ≤ g → Calls Try.prog 84 #[.int .i64 x] w1 fun e w' => e = .returned (.tuple #[]) ∧ PTh N S w w' b (p.sent x)) := fun w1 g hB hg hgN => by
      have h1 := HP.out w1 hB
      have hN1 := HL.out w1 hB
      have hS := HSG.out g hgN
      have hgl := lt_of_cell hg
      refine (sent2_any x w1).mono ?_
      rintro e w' ⟨rfl, ht⟩
      refine ⟨rfl, ?_⟩
      rw [PP.sent, if_neg (by omega), if_neg (by omega)]; subst ht; exact PTh.after hB (h1.stay hN1) hN
    clear HP HL HSG HNW hs HR
    have ff := fld1
    go_enter Try.func26, Try.ntmps26
    go_wp2_with (first
      | (go_at_call 46; refine HNw.out.mono ?_; rintro r w1 ⟨g, rfl, hB, hg, hgN⟩; have HB : Hid (Below _ _ _) := hB; have HG : Hid (World.cell? _ _ = _) := hg; have HGN : Hid (_ ≤ g) := hgN; simp only [actN, act2]; clear hB hg hgN)
      | (go_at_call 84; refine (HC.out w1 g HB.out HG.out HGN.out).mono ?_; rintro r w2 ⟨rfl, ht⟩; have HT : Hid _ := ht; clear ht))
    go_returns
    exact ⟨rfl, HT.out⟩

set_option maxRecDepth 100000 in
theorem Rejected_any {N : Nat} {S : Nat → Prop} {w : World} {b : Nat} {p : PP} (h : Pg N S w b p) (hN : N ≤ w.heap.size) (ho : p.Ok) (x y : Int) (hy0 : 0 ≤ y) (hy1 : y ≤ 4611686018427387904) :
    Calls Try.prog 30 #[.pointer (some ⟨b, 0, none⟩), .int .i64 x, .int .i64 y] w fun e w' => e = .returned (.bool (p.rejY x)) ∧ PTh N S w w' b (p.rej x y) := by
  obtain ⟨d, ⟨⟨c0, c1, c2, c3, c4, c5⟩, cf⟩, -, -⟩ := h.cells
  have hs : p.st = 0 ∨ p.st = 1 ∨ p.st = 2 := by have := ho.s0; have := ho.s2; omega
  have hm1 : p.m ≤ 4611686018427387904 := by have := ho.mn; have := ho.n1; omega
  have hn0 : 0 ≤ p.n := by have := ho.mn; have := ho.m0; omega
  have HP : Hid (∀ w1, Below w.heap.size w w1 → Pg N S w1 b p) := fun w1 hB => h.below hB
  have HL : Hid (∀ w1, Below w.heap.size w w1 → N ≤ w1.heap.size) := fun w1 hB => Nat.le_trans hN hB.size
  have HSG : Hid (∀ g, w.heap.size ≤ g → ¬ S g) := fun g hg hs => by have := h.inn g hs; omega
  have HNW : Hid (∀ st, p.st = st → 0 ≤ st → st ≤ 2 → Calls Try.prog 46 #[.pointer (some ⟨b, 0, none⟩)] w _) := fun st e h0 h2 => now_any b w st (h.inn _ h.Sb) (by rw [← e]; exact c1) h0 h2
  clear h c0 c1 c2 c3 c4 c5 cf
  rcases hs with hs | hs | hs
  · have HNw : Hid (Calls _ _ _ _ _) := HNW.out 0 hs (by omega) (by omega)
    have HR : Hid (Value.bool (p.rejY x) = .bool (decide (x = p.n - 1))) := by show _ = _; simp [PP.rejY, hs]
    have HC : Hid (∀ w1 g, Below w.heap.size w w1 → w1.cell? ⟨g, 0, none⟩ = some (.pointer (some ⟨b, 0, none⟩)) → w.heap.size ≤ g → Calls Try.prog 73 #[.pointer (some ⟨b, 0, none⟩), .int .i64 x, .int .i64 y] w1 fun e w' => e = .returned (.bool (p.rejY x)) ∧ PTh N S w w' b (p.rej x y)) := fun w1 g hB hg hgN => by
      have h1 := HP.out w1 hB
      have hN1 := HL.out w1 hB
      have hS := HSG.out g hgN
      have hgl := lt_of_cell hg
      refine (stepBack_any h1 hN1 ho.m0 hm1 hn0 ho.n1 x y hy0 hy1).mono ?_
      rintro e w' ⟨rfl, ht⟩
      refine ⟨by rw [HR.out], ?_⟩
      rw [PP.rej, if_pos hs]; exact PTh.after hB ht hN
    rw [HR.out] at HC ⊢
    clear HP HL HSG HNW hs HR
    have ff := fld3
    go_enter Try.func30, Try.ntmps30
    go_wp2_with (first
      | (go_at_call 46; refine HNw.out.mono ?_; rintro r w1 ⟨g, rfl, hB, hg, hgN⟩; have HB : Hid (Below _ _ _) := hB; have HG : Hid (World.cell? _ _ = _) := hg; have HGN : Hid (_ ≤ g) := hgN; simp only [actN, act0]; clear hB hg hgN)
      | (go_at_call 73; refine (HC.out w1 g HB.out HG.out HGN.out).mono ?_; rintro r w2 ⟨rfl, ht⟩; have HT : Hid _ := ht; clear ht))
    go_returns
    exact ⟨rfl, HT.out⟩
  · have HNw : Hid (Calls _ _ _ _ _) := HNW.out 1 hs (by omega) (by omega)
    have HR : Hid (Value.bool (p.rejY x) = .bool (decide (p.m < x))) := by show _ = _; simp [PP.rejY, hs]
    have HC : Hid (∀ w1 g, Below w.heap.size w w1 → w1.cell? ⟨g, 0, none⟩ = some (.pointer (some ⟨b, 0, none⟩)) → w.heap.size ≤ g → Calls Try.prog 80 #[.int .i64 x, .int .i64 y, .pointer (some ⟨g, 0, none⟩)] w1 fun e w' => e = .returned (.bool (p.rejY x)) ∧ PTh N S w w' b (p.rej x y)) := fun w1 g hB hg hgN => by
      have h1 := HP.out w1 hB
      have hN1 := HL.out w1 hB
      have hS := HSG.out g hgN
      have hgl := lt_of_cell hg
      refine (rej1_any h1 hN1 hg ho.m0 hm1 x y).mono ?_
      rintro e w' ⟨rfl, ht⟩
      refine ⟨by rw [HR.out], ?_⟩
      rw [PP.rej, if_neg (by omega), if_pos hs]; exact PTh.after hB ht hN
    rw [HR.out] at HC ⊢
    clear HP HL HSG HNW hs HR
    have ff := fld3
    go_enter Try.func30, Try.ntmps30
    go_wp2_with (first
      | (go_at_call 46; refine HNw.out.mono ?_; rintro r w1 ⟨g, rfl, hB, hg, hgN⟩; have HB : Hid (Below _ _ _) := hB; have HG : Hid (World.cell? _ _ = _) := hg; have HGN : Hid (_ ≤ g) := hgN; simp only [actN, act1]; clear hB hg hgN)
      | (go_at_call 80; refine (HC.out w1 g HB.out HG.out HGN.out).mono ?_; rintro r w2 ⟨rfl, ht⟩; have HT : Hid _ := ht; clear ht))
    go_returns
    exact ⟨rfl, HT.out⟩
  · have HNw : Hid (Calls _ _ _ _ _) := HNW.out 2 hs (by omega) (by omega)
    have HR : Hid (Value.bool (p.rejY x) = .bool false) := by show _ = _; simp [PP.rejY, hs]
    have HC : Hid (∀ w1 g, Below w.heap.size w w1 → w1.cell? ⟨g, 0, none⟩ = some (.pointer (some ⟨b, 0, none⟩)) → w.heap.size ≤ g → Calls Try.prog 86 #[.int .i64 x, .int .i64 y] w1 fun e w' => e = .returned (.bool (p.rejY x)) ∧ PTh N S w w' b (p.rej x y)) := fun w1 g hB hg hgN => by
      have h1 := HP.out w1 hB
      have hN1 := HL.out w1 hB
      have hS := HSG.out g hgN
      have hgl := lt_of_cell hg
      refine (rej2_any x y w1).mono ?_
      rintro e w' ⟨rfl, ht⟩
      refine ⟨by rw [HR.out], ?_⟩
      rw [PP.rej, if_neg (by omega), if_neg (by omega)]; subst ht; exact PTh.after hB (h1.stay hN1) hN
    rw [HR.out] at HC ⊢
    clear HP HL HSG HNW hs HR
    have ff := fld3
    go_enter Try.func30, Try.ntmps30
    go_wp2_with (first
      | (go_at_call 46; refine HNw.out.mono ?_; rintro r w1 ⟨g, rfl, hB, hg, hgN⟩; have HB : Hid (Below _ _ _) := hB; have HG : Hid (World.cell? _ _ = _) := hg; have HGN : Hid (_ ≤ g) := hgN; simp only [actN, act2]; clear hB hg hgN)
      | (go_at_call 86; refine (HC.out w1 g HB.out HG.out HGN.out).mono ?_; rintro r w2 ⟨rfl, ht⟩; have HT : Hid _ := ht; clear ht))
    go_returns
    exact ⟨rfl, HT.out⟩
end Go.Proofs.Ytdgaimiggejleaa
