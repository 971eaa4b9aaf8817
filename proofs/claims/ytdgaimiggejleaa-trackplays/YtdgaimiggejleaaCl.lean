/-
  What a progress does in each state: the functions of the table, one by one.
-/
import Derived.Test.YtdgaimiggejleaaPg
namespace Go.Proofs.Ytdgaimiggejleaa
open Go.RowKit
set_option linter.unusedVariables false

theorem Pg.stay {N : Nat} {S : Nat → Prop} {w : World} {b : Nat} {p : PP} (h : Pg N S w b p) (hN : N ≤ w.heap.size) : PTh N S w w b p := h.to (Out.refl _ _) hN

theorem may0_any {g : Nat} {N : Nat} {S : Nat → Prop} {w : World} {b : Nat} {p : PP} (h : Pg N S w b p) (hg : w.cell? ⟨g, 0, none⟩ = some (.pointer (some ⟨b, 0, none⟩))) :
    Calls Try.prog 69 #[.pointer (some ⟨g, 0, none⟩)] w fun e w' => e = .returned (.bool (!p.pa)) ∧ w' = w := by
  obtain ⟨d, ⟨⟨c0, c1, c2, c3, c4, c5⟩, cf⟩, hb, hq⟩ := h.cells
  clear h hb hq
  go_enter Try.func69, Try.ntmps69
  go_wp2
  go_ret
  exact ⟨rfl, rfl⟩

theorem sent0_any {g : Nat} {N : Nat} {S : Nat → Prop} {w : World} {b : Nat} {p : PP} (h : Pg N S w b p) (hN : N ≤ w.heap.size) (hg : w.cell? ⟨g, 0, none⟩ = some (.pointer (some ⟨b, 0, none⟩))) (x : Int) :
    Calls Try.prog 70 #[.int .i64 x, .pointer (some ⟨g, 0, none⟩)] w fun e w' => e = .returned (.tuple #[]) ∧ PTh N S w w' b { p with pa := true } := by
  obtain ⟨d, ⟨⟨c0, c1, c2, c3, c4, c5⟩, cf⟩, hb, hq⟩ := h.cells
  have HE : Hid (PTh N S w (w.setCell ⟨b, 4, none⟩ (.bool true)) b { p with pa := true }) := by
    have hO : Out (fun i => i = b) w (w.setCell ⟨b, 4, none⟩ (.bool true)) := Out.set rfl
    exact (h.turn (p' := { p with pa := true }) hq hO (by simpa [PP.row] using heap_set hb 4 (.bool true)) rfl rfl).to (hO.mono (by rintro i rfl; exact h.Sb)) hN
  clear h hb hq
  go_enter Try.func70, Try.ntmps70
  go_wp2
  go_returns
  exact ⟨rfl, HE.out⟩

theorem acked0_any {g : Nat} {N : Nat} {S : Nat → Prop} {w : World} {b : Nat} {p : PP} (h : Pg N S w b p) (hN : N ≤ w.heap.size) (hg : w.cell? ⟨g, 0, none⟩ = some (.pointer (some ⟨b, 0, none⟩))) (hm0 : 0 ≤ p.m) (hm1 : p.m ≤ 4611686018427387904) (x was : Int) :
    Calls Try.prog 71 #[.int .i64 x, .int .i64 was, .pointer (some ⟨g, 0, none⟩)] w fun e w' => e = .returned (.tuple #[]) ∧ PTh N S w w' b (if was ≤ x then p.re 1 else p) := by
  have HR : Hid (Calls _ _ _ _ _) := restart_any h hN hm0 hm1 1
  have HS : Hid (PTh N S w w b p) := h.stay hN
  clear h hm0 hm1
  by_cases hx : was ≤ x
  · rw [if_pos hx]
    go_enter Try.func71, Try.ntmps71
    go_wp2_with (go_at_call 72; refine HR.out.mono ?_; rintro r w2 ⟨rfl, ht⟩; have HT : Hid _ := ht; clear ht)
    go_returns
    exact ⟨rfl, HT.out⟩
  · rw [if_neg hx]
    go_enter Try.func71, Try.ntmps71
    go_wp2
    go_returns
    exact ⟨rfl, HS.out⟩

/-- Whether Rejected takes the answer while probing; and what it makes. -/
def PP.back (p : PP) (i hint : Int) : PP := if i = p.n - 1 then { p with n := max (p.m + 1) (min i (hint + 1)), pa := false } else p

set_option maxRecDepth 100000 in
theorem stepBack_any {N : Nat} {S : Nat → Prop} {w : World} {b : Nat} {p : PP} (h : Pg N S w b p) (hN : N ≤ w.heap.size) (hm0 : 0 ≤ p.m) (hm1 : p.m ≤ 4611686018427387904) (hn0 : 0 ≤ p.n) (hn1 : p.n ≤ 4611686018427387905) (i hint : Int) (hh0 : 0 ≤ hint) (hh1 : hint ≤ 4611686018427387904) :
    Calls Try.prog 73 #[.pointer (some ⟨b, 0, none⟩), .int .i64 i, .int .i64 hint] w fun e w' => e = .returned (.bool (decide (i = p.n - 1))) ∧ PTh N S w w' b (p.back i hint) := by
  obtain ⟨d, ⟨⟨c0, c1, c2, c3, c4, c5⟩, cf⟩, hb, hq⟩ := h.cells
  have hw : IntKind.i64.wrap (p.n - 1) = p.n - 1 := by rw [IntKind.wrap_i64]; omega
  have hw2 : IntKind.i64.wrap (p.m + 1) = p.m + 1 := by rw [IntKind.wrap_i64]; omega
  have hw3 : IntKind.i64.wrap (hint + 1) = hint + 1 := by rw [IntKind.wrap_i64]; omega
  by_cases hi : i = p.n - 1
  · have HE : Hid (PTh N S w ((w.setCell ⟨b, 3, none⟩ (.int .i64 (max (p.m + 1) (min i (hint + 1))))).setCell ⟨b, 4, none⟩ (.bool false)) b (p.back i hint)) := by
      have hO : Out (fun i => i = b) w ((w.setCell ⟨b, 3, none⟩ (.int .i64 (max (p.m + 1) (min i (hint + 1))))).setCell ⟨b, 4, none⟩ (.bool false)) := Out.put (Out.put (Out.refl _ _) (by rfl)) (by rfl)
      show PTh _ _ _ _ _ _
      rw [PP.back, if_pos hi]
      exact (h.turn (p' := { p with n := max (p.m + 1) (min i (hint + 1)), pa := false }) hq hO (by simpa [PP.row] using heap_set (heap_set hb 3 (.int .i64 (max (p.m + 1) (min i (hint + 1))))) 4 (.bool false)) rfl rfl).to (hO.mono (by rintro i rfl; exact h.Sb)) hN
    have hne : decide (i = p.n - 1) = true := by simpa using hi
    have hnq : (i != p.n - 1) = false := by simpa using hi
    rw [hne]
    clear h hb hq hm0 hm1 hn0 hn1 hh0 hh1 hi hne
    go_enter Try.func73, Try.ntmps73
    go_wp2
    go_ret
    exact ⟨rfl, HE.out⟩
  · have HE : Hid (PTh N S w w b (p.back i hint)) := by show PTh _ _ _ _ _ _; rw [PP.back, if_neg hi]; exact h.stay hN
    have hne : decide (i = p.n - 1) = false := by simpa using hi
    have hnq : (i != p.n - 1) = true := by simpa using hi
    rw [hne]
    clear h hb hq hm0 hm1 hn0 hn1 hh0 hh1 hi hne
    go_enter Try.func73, Try.ntmps73
    go_wp2
    go_ret
    exact ⟨rfl, HE.out⟩

theorem beat0_any (w : World) : Calls Try.prog 74 #[] w fun e w' => e = .returned (.tuple #[]) ∧ w' = w := by
  go_enter Try.func74, Try.ntmps74
  go_wp2
  go_returns
  exact ⟨rfl, rfl⟩

theorem may1_any {g : Nat} {N : Nat} {S : Nat → Prop} {w : World} {b : Nat} {p : PP} (h : Pg N S w b p) (hg : w.cell? ⟨g, 0, none⟩ = some (.pointer (some ⟨b, 0, none⟩))) :
    Calls Try.prog 75 #[.pointer (some ⟨g, 0, none⟩)] w fun e w' => e = .returned (.bool (!decide (p.W.length = p.rm))) ∧ ∃ n, w' = w.drewN n := by
  obtain ⟨d, ⟨⟨c0, c1, c2, c3, c4, c5⟩, cf⟩, hb, hq⟩ := h.cells
  have HF : Hid (Calls _ _ _ _ _) := full_any hq
  clear h hb hq
  go_enter Try.func75, Try.ntmps75
  go_wp2_with (go_at_call 76; refine HF.out.mono ?_; rintro r w2 ⟨rfl, n, hn⟩; have HN : Hid (w2 = w.drewN n) := hn; clear hn)
  go_ret
  exact ⟨rfl, n, HN.out⟩

/-- What Sent makes while replicating. -/
def PP.send (p : PP) (x : Int) : PP := if p.n ≤ x ∧ addOk p.rm p.W x = true then { p with W := addL p.rm p.W x, n := x + 1 } else p
theorem addL_no {room : Nat} {l : List Int} {x : Int} (h : addOk room l x = false) : addL room l x = l := by
  unfold addOk at h
  unfold addL putL
  cases ha : above l x with
  | false => simp
  | true => simp [ha] at h; simp; omega

set_option maxRecDepth 100000 in
theorem sent1_any {g : Nat} {N : Nat} {S : Nat → Prop} {w : World} {b : Nat} {p : PP} (h : Pg N S w b p) (hN : N ≤ w.heap.size) (hg : w.cell? ⟨g, 0, none⟩ = some (.pointer (some ⟨b, 0, none⟩))) (hS : ¬ S g) (hgl : g < w.heap.size) (x : Int) (hx0 : 0 ≤ x) (hx1 : x ≤ 4611686018427387904) :
    Calls Try.prog 77 #[.int .i64 x, .pointer (some ⟨g, 0, none⟩)] w fun e w' => e = .returned (.tuple #[]) ∧ PTh N S w w' b (p.send x) := by
  obtain ⟨d, ⟨⟨c0, c1, c2, c3, c4, c5⟩, cf⟩, hb, hq⟩ := h.cells
  have hw : IntKind.i64.wrap (x + 1) = x + 1 := by rw [IntKind.wrap_i64]; omega
  by_cases hx : p.n ≤ x
  · have HA : Hid (Calls _ _ _ _ _) := add_any hq hN x
    have HP : Hid (∀ w2, WTh N (fun i => S i ∧ i ≠ b) w w2 d p.rm (addL p.rm p.W x) → PTh N S w w2 b { p with W := addL p.rm p.W x }) := fun w2 ht => h.win hb hN ht
    have HG : Hid (∀ w2, Out S w w2 → w2.cell? ⟨g, 0, none⟩ = some (.pointer (some ⟨b, 0, none⟩))) := fun w2 hO => by
      have := hO.block g hgl hS
      rw [← hg]; simp only [World.cell?, this]
    cases hok : addOk p.rm p.W x with
    | false =>
      have HE : Hid (∀ w2, PTh N S w w2 b { p with W := addL p.rm p.W x } → PTh N S w w2 b (p.send x)) := fun w2 ht => by
        rw [PP.send, if_neg (by simp [hok])]
        rw [addL_no hok] at ht
        exact ht
      rw [hok] at HA
      clear h hb hq hx0 hx1 HG
      go_enter Try.func77, Try.ntmps77
      go_wp2_with (go_at_call 78; refine HA.out.mono ?_; rintro r w2 ⟨rfl, ht⟩; have HT := HE.out w2 (HP.out w2 ht); clear ht)
      go_returns
      exact ⟨rfl, HT⟩
    | true =>
      have HE : Hid (∀ w2, PTh N S w w2 b { p with W := addL p.rm p.W x } → ((w2.cell? ⟨b, 3, none⟩ = some (.int .i64 p.n)) ∧ w2.frozen? ⟨b, 3, none⟩ = false) ∧ PTh N S w (w2.setCell ⟨b, 3, none⟩ (.int .i64 (x + 1))) b (p.send x)) := fun w2 ht => by
        rw [PP.send, if_pos ⟨hx, hok⟩]
        obtain ⟨d', ⟨⟨-, -, -, q3, -, -⟩, qf⟩, hb', hq'⟩ := ht.q.cells
        have hO : Out (fun i => i = b) w2 (w2.setCell ⟨b, 3, none⟩ (.int .i64 (x + 1))) := Out.set rfl
        refine ⟨⟨q3, qf 3⟩, ?_⟩
        refine ht.step ((ht.q.turn (p' := { p with W := addL p.rm p.W x, n := x + 1 }) hq' hO (by simpa [PP.row] using heap_set hb' 3 (.int .i64 (x + 1))) rfl rfl).to (hO.mono (by rintro i rfl; exact ht.q.Sb)) (Nat.le_trans hN ht.out.size)) hN
      rw [hok] at HA
      clear h hb hq hx0 hx1
      go_enter Try.func77, Try.ntmps77
      go_wp2_with (go_at_call 78; refine HA.out.mono ?_; rintro r w2 ⟨rfl, ht⟩; obtain ⟨⟨q3, qf⟩, HT⟩ := HE.out w2 (HP.out w2 ht); have qg := HG.out w2 (HP.out w2 ht).out; have HT' : Hid _ := HT; clear ht HT)
      go_returns
      exact ⟨rfl, HT'.out⟩
  · have HE : Hid (PTh N S w w b (p.send x)) := by show PTh _ _ _ _ _ _; rw [PP.send, if_neg (by omega)]; exact h.stay hN
    clear h hb hq hx0 hx1
    go_enter Try.func77, Try.ntmps77
    go_wp2
    go_returns
    exact ⟨rfl, HE.out⟩
end Go.Proofs.Ytdgaimiggejleaa
