/-
  Opening on a disk that has no segment: the first is begun. Open, on a disk that has no segment. Last, Segments, Bytes.
-/
import Derived.Test.YtnahghldlkjleaaGreatDoorXS
import Derived.OwnWalk
namespace Go.Proofs.YtnahghldlkjleaaGreatDoor
open Go.RowKit
set_option linter.unusedVariables false

set_option maxRecDepth 100000 in
theorem open_new {A : Nat → Prop} {w : World} {wb d : Nat} {X : WS} (h : Wl A w wb d X) (hsg : X.sg = []) (hno : ∀ f ∈ X.p.fs, numL f.nm = 0) (p0 p1 p2 : PD)
    (hc : doCreate X.p (nmL 1) = (0, p0)) (hx : doAppend p0 (nmL 1) (txsB [X.J.head 1]) = (0, p1)) (hy : doSync p1 (nmL 1) = (0, p2)) :
    Calls Tryz.prog 76 #[.pointer (some ⟨wb, 0, none⟩)] w fun e w' => e = .returned (.bool false) ∧ Wth A w w' wb d ((X.begun 1 p0).headed p2) := by
  have k0 : w.cell? ⟨wb, 0, none⟩ = some (.pointer (some ⟨d, 0, none⟩)) := by
    obtain ⟨S, L, b, sv, k, q⟩ := h
    exact (cells5w q.hw).1.1
  have HN : Hid (Calls Tryz.prog 108 #[.pointer (some ⟨d, 0, none⟩)] w fun e w' => e = .returned (.slice none 0 0) ∧ Hid (Below w.heap.size w w')) := by
    obtain ⟨S, L, b, sv, k, q⟩ := h
    refine numbersOn_none q.hd (fun r hr => ?_)
    have := q.hp
    rw [← this] at hno
    exact hno (r.pf k.last) (List.mem_map.2 ⟨r, hr, rfl⟩)
  have HB : Hid (∀ W, Below w.heap.size w W → Calls Tryz.prog 109 #[.pointer (some ⟨wb, 0, none⟩), .int .i64 1] W fun e w' => e = .returned (.tuple #[]) ∧ Wth A w w' wb d ((X.begun 1 p0).headed p2)) := fun W hB => by
    refine (begin_any (h.below hB) 1 (Nat.le_refl _) (by omega) (by rw [hsg]; decide) p0 p1 p2 hc hx hy).mono ?_
    rintro e w' ⟨he, hT⟩
    exact ⟨he, Wth.of_below h hB hT⟩
  clear h hno hc hx hy
  generalize (X.begun 1 p0).headed p2 = XB at *
  go_enter Tryz.func76, Tryz.ntmps76
  go_wp2_with (first
    | (go_at_call 108; refine HN.out.mono ?_; rintro e w1 ⟨rfl, HB1⟩)
    | (go_at_call 109; refine (HB.out _ HB1.out).mono ?_; rintro e w2 ⟨rfl, HT⟩)
    | fail)
  go_ret
  exact ⟨rfl, HT⟩
end Go.Proofs.YtnahghldlkjleaaGreatDoor
namespace Go.Proofs.YtnahghldlkjleaaGreatDoor
open Go.RowKit
set_option linter.unusedVariables false

/-- Blocks beside the wal's are written. -/
theorem Wth.sides {A : Nat → Prop} {w W w1 w2 : World} {wb d : Nat} {X0 X : WS} (h0 : Wl A w wb d X0) (hB : Below w.heap.size w W) (h : Wth A W w1 wb d X) (hz : w2.heap.size = w1.heap.size) (hs : Out (fun i => w.heap.size ≤ i ∧ i < W.heap.size) w1 w2) : Wth A w w2 wb d X := by
  have hO1 : Out A w w1 := (Out.of_below (X := A) hB).trans h.out (fun i hi _ => hi)
  have hO : Out A w w2 := hO1.trans hs (fun i hi hlt => by omega)
  have hn : ∀ i, grew A W w1 i → ¬ (w.heap.size ≤ i ∧ i < W.heap.size) := by
    rintro i (hi | hi) h2
    · have := h0.inn i hi; omega
    · omega
  obtain ⟨S, L, b, sv, k, q⟩ := h.q
  have q2 := q.out hs hn (fun V hV => h0.vr V (by
    refine hO.trans hV (fun i hi hlt => hi.elim id (fun h3 => ?_))
    have := hB.size; omega))
  refine ⟨⟨S, L, b, sv, k, q2.wide (fun i hi => hi.imp id (fun h3 => ⟨Nat.le_trans hB.size h3.1, by rw [hz]; exact h3.2⟩)) (grew_inn h0.inn hO.size) (vr_step h0.vr hO)⟩, hO⟩
theorem wl_made {S L : Nat → Prop} {w W : World} {wb d b : Nat} {k : DS} {P : LP} (hd : DkC S w d k) (hB : Below w.heap.size w W) (hL : Lj L W b P) (hLN : ∀ i, L i → w.heap.size ≤ i) (n : Nat)
    (hw : W.heap[wb]? = some (.cells #[.pointer (some ⟨d, 0, none⟩), .int .i64 (n : Int), .slice none 0 0, .pointer (some ⟨b, 0, none⟩), .bool false] 114 (0, 0))) (hwb : w.heap.size ≤ wb) (hnL : ¬ L wb) (hv : ∀ V, Out S w V → Vars V) :
    Wl (fun i => S i ∨ L i ∨ i = wb) W wb d ⟨k.pd, n, [], P, false⟩ := by
  have wlt := (Array.getElem?_eq_some_iff.1 hw).1
  refine ⟨S, L, b, .slice none 0 0, k, hw, Ro.nil _ _ _, hL, hd.out (X := fun _ => False) (Out.of_below hB) (fun _ _ hf => hf), rfl, ?_, ?_, hnL, fun g hg => (by cases hg), fun i hi => .inl hi, fun i hi => .inr (.inl hi), .inr (.inr rfl), ?_, ?_⟩
  · intro i hS hl
    have := hd.inn i hS
    have := hLN i hl
    omega
  · intro hS
    have := hd.inn _ hS
    omega
  · rintro i (hi | hi | rfl)
    · exact Nat.lt_of_lt_of_le (hd.inn i hi) hB.size
    · exact hL.inn i hi
    · exact wlt
  · intro V hV
    refine hv V ((Out.of_below (X := S) hB).trans hV ?_)
    rintro i (hi | hi | rfl) hlt
    · exact hi
    · have := hLN i hi; omega
    · omega

set_option maxRecDepth 100000 in
theorem open1_any {A : Nat → Prop} {W : World} {wb d B0 B1 : Nat} {X2 : WS} (HO : Hid (Calls Tryz.prog 76 #[.pointer (some ⟨wb, 0, none⟩)] W fun e w' => e = .returned (.bool false) ∧ Hid (Wth A W w' wb d X2)))
    (h0 : W.heap[B0]? = some (.cells #[.pointer (some ⟨wb, 0, none⟩)] 31 (0, 0))) (h1 : W.heap[B1]? = some (.cells #[.bool false] 4 (0, 0))) (n1 : ¬ A B1) :
    Calls Tryz.prog 75 #[.pointer (some ⟨B0, 0, none⟩), .pointer (some ⟨B1, 0, none⟩)] W fun e w' => e = .returned (.tuple #[]) ∧ ∃ w2, Wth A W w2 wb d X2 ∧ w' = w2.setCell ⟨B1, 0, none⟩ (.bool false) := by
  have k0 : W.cell? ⟨B0, 0, none⟩ = some (.pointer (some ⟨wb, 0, none⟩)) := by simp only [World.cell?, h0]; rfl
  have HK : Hid (∀ w', Hid (Wth A W w' wb d X2) → w'.cell? ⟨B1, 0, none⟩ = some (.bool false) ∧ w'.frozen? ⟨B1, 0, none⟩ = false) := fun w' hT => by
    have hx : w'.heap[B1]? = some (.cells #[.bool false] 4 (0, 0)) := (hT.out.out.block _ (Array.getElem?_eq_some_iff.1 h1).1 n1).trans h1
    exact ⟨by simp only [World.cell?, hx]; rfl, by simp [World.frozen?, hx]⟩
  clear h0 h1
  go_enter Tryz.func75, Tryz.ntmps75
  go_wp2_with (go_at_call 76; refine HO.out.mono ?_; rintro e w1 ⟨rfl, HT⟩; obtain ⟨k1, kf1⟩ := HK.out _ HT)
  go_end0
  exact ⟨rfl, w1, HT.out, rfl⟩

theorem entO1 (args : Array Value) (w : World) : (callFunc 75 args).run Tryz.prog w = .ok (.enter 75 args) w := by
  simp [callFunc, Tryz.func75, Tryz.f75, mark]

set_option maxRecDepth 100000 in
set_option maxHeartbeats 1000000 in
theorem Open_new {S : Nat → Prop} {w : World} {d : Nat} {k : DS} (hd : DkC S w d k) (hv : ∀ V, Out S w V → Vars V) (n : Nat) (hn : 64 ≤ n ∧ n ≤ 1048576) (hno : ∀ f ∈ k.pd.fs, numL f.nm = 0) (X0 X2 : WS) (hX0 : X0 = ⟨k.pd, n, [], LP0, false⟩) (p0 p1 p2 : PD)
    (hc : doCreate k.pd (nmL 1) = (0, p0)) (hx : doAppend p0 (nmL 1) (txsB [LP0.head 1]) = (0, p1)) (hy : doSync p1 (nmL 1) = (0, p2)) (hX2 : X2 = (X0.begun 1 p0).headed p2) :
    Calls Tryz.prog 30 #[.pointer (some ⟨d, 0, none⟩), .int .i64 (n : Int)] w fun e w' => ∃ A wb, e = .returned (.tuple #[.pointer (some ⟨wb, 0, none⟩), .bool false, .int .i64 0]) ∧ Wl A w' wb d X2 ∧ Out S w w' ∧ ∀ i, A i → S i ∨ w.heap.size ≤ i := by
  have HL : Hid (Calls Tryz.prog 73 #[] w fun e w1 => ∃ b W0, e = .returned (.pointer (some ⟨b, 0, none⟩)) ∧
      Hid (((w1.alloc (.cells #[.pointer (some ⟨d, 0, none⟩), .int .i64 (n : Int), .slice none 0 0, .pointer (some ⟨b, 0, none⟩), .bool false] 114)).alloc (.cells #[.pointer (some ⟨w1.heap.size, 0, none⟩)] 31)).alloc (.cells #[.bool false] 4) = W0) ∧
      Hid (Calls Tryz.prog 74 #[.func (.func 75) #[] #[.pointer (some ⟨w1.heap.size + 1, 0, none⟩), .pointer (some ⟨w1.heap.size + 2, 0, none⟩)]] W0 fun e w' => e = .returned (.int .i64 0) ∧ w'.cell? ⟨w1.heap.size + 1, 0, none⟩ = some (.pointer (some ⟨w1.heap.size, 0, none⟩)) ∧ w'.cell? ⟨w1.heap.size + 2, 0, none⟩ = some (.bool false) ∧ Hid (∃ A, Wl A w' w1.heap.size d X2 ∧ Out S w w' ∧ ∀ i, A i → S i ∨ w.heap.size ≤ i))) := by
    refine (newLedger_any w).mono ?_
    rintro e w1 ⟨rfl, hL, hB1⟩
    obtain ⟨Wb, hWb⟩ : ∃ Wb, w1.alloc (.cells #[.pointer (some ⟨d, 0, none⟩), .int .i64 (n : Int), .slice none 0 0, .pointer (some ⟨w.heap.size, 0, none⟩), .bool false] 114) = Wb := ⟨_, rfl⟩
    have hB1b : Below w1.heap.size w1 Wb := by rw [← hWb]; exact (Below.refl _ w1).alloc (Nat.le_refl _) _
    have hzb : Wb.heap.size = w1.heap.size + 1 := by rw [← hWb]; simp
    have hwb : Wb.heap[w1.heap.size]? = some (.cells #[.pointer (some ⟨d, 0, none⟩), .int .i64 (n : Int), .slice none 0 0, .pointer (some ⟨w.heap.size, 0, none⟩), .bool false] 114 (0, 0)) := by rw [← hWb]; exact heap_alloc_new w1 _
    have hBb : Below w.heap.size w Wb := hB1.trans (hB1b.mono hB1.size)
    have hQ := wl_made hd hBb (hL.below hB1b) (fun i hi => hi.1) n hwb hB1.size (fun hi => absurd hi.2 (Nat.lt_irrefl _)) hv
    rw [← hX0] at hQ
    obtain ⟨A, hA⟩ : ∃ A : Nat → Prop, A = (fun i => S i ∨ (w.heap.size ≤ i ∧ i < w1.heap.size) ∨ i = w1.heap.size) := ⟨_, rfl⟩
    rw [← hA] at hQ
    have hAS : ∀ i, A i → S i ∨ w.heap.size ≤ i := by
      rw [hA]
      rintro i (hi | hi | rfl)
      · exact .inl hi
      · exact .inr hi.1
      · exact .inr hB1.size
    obtain ⟨W0, hW0⟩ : ∃ W0, (Wb.alloc (.cells #[.pointer (some ⟨w1.heap.size, 0, none⟩)] 31)).alloc (.cells #[.bool false] 4) = W0 := ⟨_, rfl⟩
    have hB0 : Below Wb.heap.size Wb W0 := by rw [← hW0]; exact ((Below.refl _ Wb).alloc (Nat.le_refl _) _).alloc (by simp) _
    have hz0 : W0.heap.size = w1.heap.size + 3 := by rw [← hW0]; simp [hzb]
    have hx0 : W0.heap[w1.heap.size + 1]? = some (.cells #[.pointer (some ⟨w1.heap.size, 0, none⟩)] 31 (0, 0)) := by rw [← hW0, ← hzb]; exact (two_new Wb _ _).1
    have hx1 : W0.heap[w1.heap.size + 2]? = some (.cells #[.bool false] 4 (0, 0)) := by
      rw [← hW0, show w1.heap.size + 2 = Wb.heap.size + 1 by omega]; exact (two_new Wb _ _).2
    refine ⟨w.heap.size, W0, rfl, ?_, ?_⟩
    · show _ = _
      rw [hWb, hW0]
    have hBE : Below W0.heap.size W0 (W0.alloc (.cells #[.int .i64 0] 45)) := (Below.refl _ W0).alloc (Nat.le_refl _) _
    have hBq : Below Wb.heap.size Wb (W0.alloc (.cells #[.int .i64 0] 45)) := hB0.trans (hBE.mono hB0.size)
    have hQE := hQ.below hBq
    have nA : ∀ i, Wb.heap.size ≤ i → ¬ A i := fun i hi ha => by have := hQ.inn i ha; omega
    have HO : Hid (Calls Tryz.prog 76 #[.pointer (some ⟨w1.heap.size, 0, none⟩)] (W0.alloc (.cells #[.int .i64 0] 45)) fun e w' => e = .returned (.bool false) ∧ Hid (Wth A (W0.alloc (.cells #[.int .i64 0] 45)) w' w1.heap.size d X2)) := by
      subst hX0
      rw [hX2]
      exact open_new hQE rfl hno p0 p1 p2 hc hx hy
    refine (face_ok 75 _ W0 (fun w' => Wth A Wb w' w1.heap.size d X2 ∧ w'.heap[w1.heap.size + 1]? = some (.cells #[.pointer (some ⟨w1.heap.size, 0, none⟩)] 31 (0, 0)) ∧ w'.heap[w1.heap.size + 2]? = some (.cells #[.bool false] 4 (0, 0))) entO1 ?_).mono ?_
    · refine (open1_any HO (bel_heap hBE hx0) (bel_heap hBE hx1) (nA _ (by omega))).mono ?_
      rintro e w' ⟨rfl, w2, hT, rfl⟩
      have hoB : Out A W0 w2 := (Out.of_below (X := A) hBE).trans hT.out (fun i hi _ => hi)
      have g0 : w2.heap[w1.heap.size + 1]? = some (.cells #[.pointer (some ⟨w1.heap.size, 0, none⟩)] 31 (0, 0)) := (hoB.block _ (by omega) (nA _ (by omega))).trans hx0
      have g1 : w2.heap[w1.heap.size + 2]? = some (.cells #[.bool false] 4 (0, 0)) := (hoB.block _ (by omega) (nA _ (by omega))).trans hx1
      have gE : w2.heap[W0.heap.size]? = some (.cells #[.int .i64 0] 45 (0, 0)) := (hT.out.block _ (by simp) (nA _ (by omega))).trans (heap_alloc_new W0 _)
      have e1 : (w2.setCell ⟨w1.heap.size + 2, 0, none⟩ (.bool false)).heap[W0.heap.size]? = some (.cells #[.int .i64 0] 45 (0, 0)) := (Below.heap_setCell _ _ _ _ (by show _ ≠ _; simp; omega)).trans gE
      refine ⟨rfl, e1, ?_, ?_, ?_⟩
      · refine hT.sides hQ hBq (by rw [size_set, size_set]) ?_
        refine (Out.set (u := .bool false) ⟨?_, ?_⟩).put ⟨?_, ?_⟩
        · omega
        · simp
        · omega
        · simp; omega
      · refine (Below.heap_setCell _ _ _ _ (by show _ ≠ _; simp; omega)).trans ((Below.heap_setCell _ _ _ _ (by show _ ≠ _; simp)).trans g0)
      · refine (Below.heap_setCell _ _ _ _ (by show _ ≠ _; simp; omega)).trans ?_
        rw [heap_set g1 0 (.bool false)]; rfl
    · rintro e w' ⟨rfl, hT, g0, g1⟩
      refine ⟨rfl, by simp only [World.cell?, g0]; rfl, by simp only [World.cell?, g1]; rfl, grew A Wb w', hT.q, ?_, ?_⟩
      · exact (Out.of_below (X := S) hBb).trans hT.out (fun i hi hlt => (hAS i hi).elim id (fun h => by omega))
      · rintro i (hi | hi)
        · exact hAS i hi
        · exact .inr (Nat.le_trans hBb.size hi.1)
  have l1 : decide ((n : Int) < 64) = false := by simp; omega
  have l2 : decide ((1048576 : Int) < (n : Int)) = false := by simp; omega
  have hmf : ∀ (fn : Fn) (first cap : Array Value) (w : World), (Instr.makeFunc fn first cap).run Tryz.prog w = .ok (.func fn first cap) w := fun _ _ _ _ => rfl
  clear hd hv hn hno hX0 hc hx hy hX2
  go_enter Tryz.func30, Tryz.ntmps30
  go_wp2_with (first
    | (go_at_call 73; refine HL.out.mono ?_; rintro e w1 ⟨b, W0, rfl, HW, HF⟩)
    | (go_at_call 74; rw [HW.out]; refine HF.out.mono ?_; rintro e w2 ⟨rfl, k1, k2, HT⟩)
    | fail)
  go_quiet (fail)
  go_wp2
  go_ret3
  obtain ⟨A, h1, h2, h3⟩ := HT.out
  exact ⟨A, _, rfl, h1.below (below_drewN (Below.refl _ _) _), h2.trans (Y := S) (Out.drew _ _) (fun _ h _ => h), h3⟩
end Go.Proofs.YtnahghldlkjleaaGreatDoor
namespace Go.Proofs.YtnahghldlkjleaaGreatDoor
open Go.RowKit
set_option linter.unusedVariables false

set_option maxRecDepth 100000 in
theorem Last_any {A : Nat → Prop} {w : World} {wb d : Nat} {X : WS} (h : Wl A w wb d X) :
    Calls Tryz.prog 38 #[.pointer (some ⟨wb, 0, none⟩)] w fun e w' => e = .returned (.tuple #[.int .i64 X.J.li, .int .i64 X.J.lt]) ∧ ∃ n, w' = w.drewN n := by
  obtain ⟨S, L, b, sv, k, h⟩ := h
  obtain ⟨⟨w0, w1, w2, w3, w4⟩, -⟩ := cells5w h.hw
  have HL : Hid (Calls Tryz.prog 52 #[.pointer (some ⟨b, 0, none⟩)] w fun e w' => e = .returned (.tuple #[.int .i64 X.J.li, .int .i64 X.J.lt]) ∧ ∃ n, w' = w.drewN n) := last_any h.hj
  clear h w0 w1 w2 w4
  generalize X.J.li = li at *
  generalize X.J.lt = lt at *
  go_enter Tryz.func38, Tryz.ntmps38
  go_wp2_with (go_at_call 52; refine HL.out.mono ?_; rintro e w9 ⟨rfl, q, rfl⟩)
  go_ret2
  exact ⟨rfl, q, rfl⟩

theorem segCell {N : Nat} {w : World} {sv : Value} {sg : List Sg} (hr : Ro RSg N w sv sg) {j : Nat} (hj : j < sg.length) : ∃ g cap, sv = .slice (some ⟨g, 0, none⟩) sg.length cap ∧ g < w.heap.size ∧ w.cell? ⟨g, j * 2, none⟩ = some (.int .i64 ((sg[j]).n : Int)) ∧ w.cell? ⟨g, j * 2 + 1, none⟩ = some (.int .i64 ((sg[j]).b : Int)) := by
  obtain ⟨g, cap, he, -, hg, -, hc⟩ := hr.at0 (by omega)
  exact ⟨g, cap, he, hg, hc j 0 hj (by decide), hc j 1 hj (by decide)⟩

def sumB (l : List Sg) : Nat := (l.map Sg.b).foldl (· + ·) 0
theorem sumB_snoc (l : List Sg) (s : Sg) : sumB (l ++ [s]) = sumB l + s.b := by simp [sumB]
theorem take_snoc {sg : List Sg} {j : Nat} (hj : j < sg.length) : sg.take (j + 1) = sg.take j ++ [sg[j]] := (List.take_append_getElem hj).symm
theorem sumB_le {B : Nat} : ∀ (n : Nat) (l : List Sg), l.length = n → (∀ s ∈ l, s.b ≤ B) → sumB l ≤ n * B := by
  intro n
  induction n with
  | zero => intro l hl _; rw [List.length_eq_zero_iff.1 hl]; simp [sumB]
  | succ n ih =>
    intro l hl h
    obtain ⟨q, s, rfl⟩ : ∃ q s, l = q ++ [s] := ⟨l.dropLast, l.getLast (by intro e; rw [e] at hl; cases hl), (List.dropLast_concat_getLast _).symm⟩
    rw [sumB_snoc, Nat.add_mul, Nat.one_mul]
    have h1 := ih q (by simpa using hl) (fun s hs => h s (by simp [hs]))
    have h2 := h s (by simp)
    omega

set_option maxRecDepth 100000 in
set_option maxHeartbeats 1000000 in
theorem Bytes_any {A : Nat → Prop} {w : World} {wb d : Nat} {X : WS} (h : Wl A w wb d X) (hfew : X.sg.length ≤ 100000) (hb : ∀ s ∈ X.sg, s.b ≤ 1000000000) :
    Calls Tryz.prog 42 #[.pointer (some ⟨wb, 0, none⟩)] w fun e w' => e = .returned (.int .i64 (sumB X.sg : Int)) ∧ Below w.heap.size w w' := by
  obtain ⟨S, L, b, sv, k, h⟩ := h
  obtain ⟨⟨w0, w1, w2, w3, w4⟩, -⟩ := cells5w h.hw
  have hr := h.hs
  obtain ⟨sa, sc, hsv, hs1, hs2⟩ := hr.shape
  have HC : Hid (∀ j, j < X.sg.length → ∃ g cell, sa = some ⟨g, 0, none⟩ ∧ sumB (X.sg.take (j + 1)) = sumB (X.sg.take j) + cell ∧ cell ≤ 1000000000 ∧ ∀ wr, Below w.heap.size w wr → (∃ n, wr.cell? ⟨g, j * 2, none⟩ = some (.int .i64 (n : Int))) ∧ wr.cell? ⟨g, j * 2 + 1, none⟩ = some (.int .i64 (cell : Int))) := fun j hj => by
    obtain ⟨g, cap, he, hg, c0, c1⟩ := segCell hr hj
    rw [hsv] at he
    cases he
    refine ⟨g, (X.sg[j]).b, rfl, ?_, hb _ (List.getElem_mem hj), fun wr hB => ⟨⟨_, (hB.cell (p := ⟨g, j * 2, none⟩) hg).trans c0⟩, (hB.cell (p := ⟨g, j * 2 + 1, none⟩) hg).trans c1⟩⟩
    rw [take_snoc hj, sumB_snoc]
  have HS : Hid (∀ j, j ≤ X.sg.length → sumB (X.sg.take j) ≤ 100000000000000) := fun j hj => by
    have := sumB_le (B := 1000000000) j (X.sg.take j) (by simp; omega) (fun s hs => hb s (List.mem_of_mem_take hs))
    have h2 := Nat.mul_le_mul_right 1000000000 (show j ≤ 100000 by omega)
    omega
  have HA : Hid (sumB (X.sg.take X.sg.length) = sumB X.sg) := by show _ = _; rw [List.take_length]
  rw [← HA.out]
  subst hsv
  clear h hr hb w0 w1 w3 w4 HA
  generalize hF : (fun j => sumB (X.sg.take j)) = F at *
  have HF0 : Hid (F 0 = 0) := by rw [← hF]; rfl
  simp only [show ∀ j, sumB (X.sg.take j) = F j from fun j => by rw [← hF]] at *
  clear hF
  generalize X.sg.length = m at *
  go_enter Tryz.func42, Tryz.ntmps42
  go_wp2_with fail
  go_loopw [3, 11] (fun v3 v11 wr => ∃ j : Nat, v11 = .int .i64 (j : Int) ∧ v3 = .int .i64 (F j : Int) ∧ j ≤ m ∧ Hid (Below w.heap.size w wr)) (fun _ i _ => m - (intOf i).toNat)
  case atStart => exact ⟨0, rfl, by rw [HF0.out]; rfl, Nat.zero_le _, Below.refl _ _⟩
  case round =>
    obtain ⟨j, rfl, rfl, hj, HB⟩ := hrel
    by_cases hlt : j < m
    · obtain ⟨g, cell, rfl, hsum, hcl, hcc⟩ := HC.out j hlt
      obtain ⟨⟨n, k0⟩, k1⟩ := hcc wr HB.out
      have HG : Hid (Below w.heap.size w (wr.alloc (.cells #[.int .i64 n, .int .i64 (cell : Int)] 135))) := bel_alloc' HB.out _
      have hF1 := HS.out j hj
      have hadd : IntKind.i64.wrap ((F j : Int) + (cell : Int)) = (F (j + 1) : Int) := by rw [IntKind.wrap_i64, hsum]; omega
      clear HC HS HB hsum hcc hF1
      go_wp2_with fail
      exact ⟨⟨j + 1, by go_num, rfl, by omega, HG⟩, by simp [intOf]; omega⟩
    · have hjm : j = m := by omega
      subst hjm
      clear HC HS
      go_wp2_with fail
      go_ret
      exact ⟨rfl, HB.out⟩

def Sg.nm (s : Sg) : List UInt8 := nmL s.n
set_option maxRecDepth 100000 in
set_option maxHeartbeats 1000000 in
theorem Segments_any {A : Nat → Prop} {w : World} {wb d : Nat} {X : WS} (h : Wl A w wb d X) (hfew : X.sg.length ≤ 100000) (hb : ∀ s ∈ X.sg, s.n ≤ 99999999) :
    Calls Tryz.prog 33 #[.pointer (some ⟨wb, 0, none⟩)] w fun e w' => ∃ v, e = .returned v ∧ Ro RS w.heap.size w' v (X.sg.map Sg.nm) ∧ Below w.heap.size w w' := by
  obtain ⟨S, L, b, sv, k, h⟩ := h
  obtain ⟨⟨w0, w1, w2, w3, w4⟩, -⟩ := cells5w h.hw
  have hr := h.hs
  obtain ⟨sa, sc, hsv, hs1, hs2⟩ := hr.shape
  have HC : Hid (∀ j, j < X.sg.length → ∃ g sn sb, sa = some ⟨g, 0, none⟩ ∧ (X.sg.map Sg.nm).take (j + 1) = (X.sg.map Sg.nm).take j ++ [nmL sn] ∧ ∀ wr, Below w.heap.size w wr → wr.cell? ⟨g, j * 2, none⟩ = some (.int .i64 ((sn : Nat) : Int)) ∧ wr.cell? ⟨g, j * 2 + 1, none⟩ = some (.int .i64 ((sb : Nat) : Int)) ∧ Calls Tryz.prog 78 #[.agg #[.int .i64 (sn : Int), .int .i64 (sb : Int)]] (wr.alloc (.cells #[.int .i64 (sn : Int), .int .i64 (sb : Int)] 135)) fun e w' => e = .returned (.string ⟨(nmL sn).toArray⟩) ∧ Hid (Below w.heap.size w w') ∧ Hid (Below wr.heap.size wr w')) := fun j hj => by
    obtain ⟨g, cap, he, hg, c0, c1⟩ := segCell hr hj
    rw [hsv] at he
    cases he
    refine ⟨g, (X.sg[j]).n, (X.sg[j]).b, rfl, ?_, fun wr hB => ⟨(hB.cell (p := ⟨g, j * 2, none⟩) hg).trans c0, (hB.cell (p := ⟨g, j * 2 + 1, none⟩) hg).trans c1, ?_⟩⟩
    · rw [← List.take_append_getElem (by simpa using hj : j < (X.sg.map Sg.nm).length)]
      simp [Sg.nm]
    · have hBa : Below wr.heap.size wr (wr.alloc (.cells #[.int .i64 ((X.sg[j]).n : Int), .int .i64 ((X.sg[j]).b : Int)] 135)) := (Below.refl _ wr).alloc (Nat.le_refl _) _
      refine (segName_any _ _ (hb _ (List.getElem_mem hj)) _ ((h.below (hB.trans (hBa.mono hB.size))).vr _ (Out.refl _ _))).mono ?_
      rintro e w' ⟨he, hB'⟩
      have h2 : Below wr.heap.size wr w' := hBa.trans (hB'.mono hBa.size)
      exact ⟨he, hB.trans (h2.mono hB.size), h2⟩
  have HA : Hid ((X.sg.map Sg.nm).take X.sg.length = X.sg.map Sg.nm) := by
    show _ = _
    rw [List.take_of_length_le (by simp)]
  rw [← HA.out]
  have HLn : Hid (∀ j, ((X.sg.map Sg.nm).take j).length ≤ 1000000000) := fun j => by simp; omega
  subst hsv
  clear h hr hb w0 w1 w3 w4 HA
  generalize X.sg.length = m at *
  generalize X.sg.map Sg.nm = ns at *
  go_enter Tryz.func33, Tryz.ntmps33
  go_wp2_with fail
  go_loopw [3, 11] (fun v3 v11 wr => ∃ j : Nat, v11 = .int .i64 (j : Int) ∧ j ≤ m ∧ Hid (Ro RS w.heap.size wr v3 (ns.take j)) ∧ Hid (Below w.heap.size w wr)) (fun _ i _ => m - (intOf i).toNat)
  case atStart => exact ⟨0, rfl, Nat.zero_le _, Ro.nil _ _ _, Below.refl _ _⟩
  case round =>
    obtain ⟨j, rfl, hj, HR, HB⟩ := hrel
    obtain ⟨va, vc, rfl, hv1, hv2⟩ := HR.out.shape
    by_cases hlt : j < m
    · obtain ⟨g, sn, sb, rfl, hsn, hcc⟩ := HC.out j hlt
      obtain ⟨k0, k1, hcall⟩ := hcc wr HB.out
      have HN : Hid (Calls _ _ _ _ _) := hcall
      have HT : Hid (ns.take (j + 1) = ns.take j ++ [nmL sn]) := hsn
      have hl := HLn.out j
      clear HC HLn hcc hsn hcall
      generalize nmL sn = nm at *
      have HRr := HR
      have HTr := HT
      clear HR HT
      have HR : Hid (Ro RS w.heap.size wr (.slice va (ns.take j).length vc) (ns.take j)) := HRr.out
      have HT : Hid (ns.take (j + 1) = ns.take j ++ [nm]) := HTr.out
      clear HRr HTr
      generalize ns.take j = tj at *
      go_wp2_with (first
        | (go_at_call 78; refine Calls.mono HN.out ?_; rintro e w2 ⟨rfl, HB2, HBr⟩)
        | (at_builtin; refine wpList_append_ro RS rfl _ _ rfl w.heap.size (.slice va tj.length vc) tj nm rfl (HR.out.below HBr.out (Nat.le_refl _)) (B := w2.heap.size) rfl rfl hl HB2.out.size ?_; intro v' w5 q1 q2 q3; have HQ1 : Hid (_ ∧ _ ∧ _) := And.intro q1 (And.intro q2 q3); clear q1 q2 q3)
        | fail)
      refine ⟨⟨j + 1, by go_num, by omega, ?_, ?_⟩, by simp [intOf]; omega⟩
      · show Ro _ _ _ _ _
        rw [HT.out]
        exact HQ1.out.1
      · exact bel_grown (bel_alloc' HB2.out _) HQ1.out.2.1 (fun g hg => (HR.out.lt hg).1)
    · have hjm : j = m := by omega
      subst hjm
      clear HC HLn
      go_wp2_with fail
      go_ret
      exact ⟨_, rfl, HR.out, HB.out⟩
end Go.Proofs.YtnahghldlkjleaaGreatDoor
