/-
  The head of a segment. A segment's file is begun; a segment is begun. A segment is begun behind all others.
-/
import Derived.Test.YtnahghldlkjleaaGreatDoorWy
namespace Go.Proofs.YtnahghldlkjleaaGreatDoor
open Go.RowKit
set_option linter.unusedVariables false

/-- The record that a segment begins with. -/
def LP.head (P : LP) (n : Nat) : Rd := ⟨0, n, P.t, P.v, P.c, P.li, P.lt, nilEnt⟩
theorem LP.Ok.ltr {P : LP} (h : P.Ok) : Rng P.lt := by
  unfold LP.lt LP.tm
  split
  · exact h.t0
  · rename_i hne
    unfold LP.li at hne ⊢
    exact h.tms (by omega)
theorem head_num {P : LP} (h : P.Ok) {n : Nat} (hn : n ≤ 99999999) : (P.head n).Num :=
  ⟨by show 0 ≤ 3; omega, hn, h.st, ⟨h.lim, h.ltr⟩, fun e => by cases e⟩
theorem results_hd {fn : Func} {t : Tmp} (h : fn.results = #[.cell t 177]) (tmps : Array Value) (w : World) (B : Nat) {x0 x1 x2 x3 x4 x5 x6 x7 x8 x9 x10 : Value} (ht : tmps.getD t undef = .pointer (some ⟨B, 0, none⟩)) (hb : w.heap[B]? = some (.cells #[x0, x1, x2, x3, x4, x5, x6, x7, x8, x9, x10] 177 (0, 0))) :
    (results fn tmps).run Tryz.prog w = .ok (.agg #[x0, x1, x2, x3, x4, x5, x6, x7, x8, x9, x10]) w := by
  obtain ⟨⟨c0, c1, c2, c3, c4, c5, c6, c7, c8, c9, c10⟩, -⟩ := cells11 hb
  have ht' : tmps[t]?.getD undef = .pointer (some ⟨B, 0, none⟩) := by rw [← Array.getD_eq_getD_getElem?]; exact ht
  simp [results, h, ht', asAddr, loadVar, c0, c1, c2, c3, c4, c5, c6, c7, c8, c9, c10, go_sem]

set_option maxRecDepth 100000 in
set_option maxHeartbeats 1000000 in
theorem head_any {A : Nat → Prop} {w : World} {wb d : Nat} {X : WS} (h : Wl A w wb d X) (n : Nat) :
    Calls Tryz.prog 207 #[.pointer (some ⟨wb, 0, none⟩), .int .i64 (n : Int)] w fun e w' => e = .returned (X.J.head n).val ∧ Below w.heap.size w w' := by
  obtain ⟨S, L, b, sv, k, h⟩ := h
  obtain ⟨W0, hW0⟩ : ∃ W0, w.alloc (.cells #[.int .i64 0, .int .i64 0, .int .i64 0, .int .i64 0, .int .i64 0, .int .i64 0, .int .i64 0, .int .i64 0, .int .i64 0, .int .i64 0, .slice none 0 0] 177) = W0 := ⟨_, rfl⟩
  have HW : Hid (_ = W0) := hW0
  have hB : Below w.heap.size w W0 := by rw [← hW0]; exact (Below.refl _ w).alloc (Nat.le_refl _) _
  have hR : W0.heap[w.heap.size]? = some (.cells #[.int .i64 0, .int .i64 0, .int .i64 0, .int .i64 0, .int .i64 0, .int .i64 0, .int .i64 0, .int .i64 0, .int .i64 0, .int .i64 0, .slice none 0 0] 177 (0, 0)) := by rw [← hW0]; exact heap_alloc_new w _
  have h1 := h.below hB
  obtain ⟨⟨w0, w1, w2, w3, w4⟩, -⟩ := cells5w h1.hw
  obtain ⟨va, vc, sa, sc, es, mb, c, hb, -⟩ := h1.hj.cells
  obtain ⟨⟨j0, j1, j2, -⟩, -⟩ := cells8 hb
  have HL : Hid (Calls Tryz.prog 52 #[.pointer (some ⟨b, 0, none⟩)] W0 fun e w' => e = .returned (.tuple #[.int .i64 X.J.li, .int .i64 X.J.lt]) ∧ ∃ n, w' = W0.drewN n) := last_any h1.hj
  have HC : Hid (∀ q, (W0.drewN q).cell? ⟨wb, 3, none⟩ = some (.pointer (some ⟨b, 0, none⟩)) ∧ (W0.drewN q).cell? ⟨b, 0, none⟩ = some (.int .i64 X.J.t) ∧ (W0.drewN q).cell? ⟨b, 1, none⟩ = some (.int .i64 X.J.v) ∧ (W0.drewN q).cell? ⟨b, 2, none⟩ = some (.int .i64 X.J.c) ∧ (W0.drewN q).heap[w.heap.size]? = some (.cells #[.int .i64 0, .int .i64 0, .int .i64 0, .int .i64 0, .int .i64 0, .int .i64 0, .int .i64 0, .int .i64 0, .int .i64 0, .int .i64 0, .slice none 0 0] 177 (0, 0)) ∧ Below w.heap.size w (W0.drewN q)) := fun q => ⟨w3, j0, j1, j2, hR, below_drewN hB q⟩
  clear h h1 hb hW0 hB hR w0 w1 w2 w4 j0 j1 j2
  unfold Rd.val LP.head
  generalize X.J.li = li at *
  generalize X.J.lt = lt at *
  generalize X.J.t = jt at *
  generalize X.J.v = jv at *
  generalize X.J.c = jc at *
  go_enter Tryz.func207, Tryz.ntmps207
  go_upto_region 1 with fail
  rw [HW.out]
  go_wp2_with (go_at_call 52; refine HL.out.mono ?_; rintro e w9 ⟨rfl, q, rfl⟩; obtain ⟨k3, k0, k1, k2, hx, hBq⟩ := HC.out q; obtain ⟨⟨x0, x1, x2, x3, x4, x5, x6, x7, x8, x9, x10⟩, xf⟩ := cells11 hx; have HX : Hid _ := hx; have HBQ : Hid _ := hBq; clear hx hBq)
  refine bodyPost_ret (results_hd rfl _ _ w.heap.size rfl (set11 HX.out rfl _ _ _ _ _ _ _ _ _ _ _)) rfl ?_
  exact ⟨rfl, bel_set11 HBQ.out (Nat.le_refl _) _ _ _ _ _ _ _ _ _ _ _⟩
end Go.Proofs.YtnahghldlkjleaaGreatDoor
namespace Go.Proofs.YtnahghldlkjleaaGreatDoor
open Go.RowKit
set_option linter.unusedVariables false

/-- The wal behind a segment's head. -/
def WS.headed (X : WS) (p : PD) : WS := { (X.grow (txsB [X.J.head X.last.n]).length) with p := p }
theorem headed_sg (X : WS) (p : PD) : (X.headed p).sg = X.sg.dropLast ++ [⟨X.last.n, X.last.b + (txsB [X.J.head X.last.n]).length⟩] := rfl
theorem last_grow (X : WS) (n : Nat) : (X.grow n).last = ⟨X.last.n, X.last.b + n⟩ := by
  show (X.sg.dropLast ++ [(⟨X.last.n, X.last.b + n⟩ : Sg)]).getLastD sg0 = _
  simp [List.getLastD_eq_getLast?]
theorem rds_one (w : World) (r : Rd) : RdsAt (w.alloc (.cells #[.int .i64 (r.k : Int), .int .i64 (r.sg : Int), .int .i64 r.t, .int .i64 r.v, .int .i64 r.c, .int .i64 r.i, .int .i64 r.tm, .int .i64 r.e.t, .int .i64 r.e.i, .int .i64 r.e.k, r.e.x] 177)) (some ⟨w.heap.size, 0, none⟩) [r] := by
  refine .inr ⟨w.heap.size, 0, rfl, by simp, fun i hi j hj => ?_⟩
  have h0 : i = 0 := by simpa using hi
  subst h0
  obtain ⟨⟨c0, c1, c2, c3, c4, c5, c6, c7, c8, c9, c10⟩, -⟩ := cells11 (heap_alloc_new w (.cells #[.int .i64 (r.k : Int), .int .i64 (r.sg : Int), .int .i64 r.t, .int .i64 r.v, .int .i64 r.c, .int .i64 r.i, .int .i64 r.tm, .int .i64 r.e.t, .int .i64 r.e.i, .int .i64 r.e.k, r.e.x] 177))
  simp only [Nat.zero_mul, Nat.zero_add, List.getElem_cons_zero]
  match j, hj with
  | 0, _ => exact c0
  | 1, _ => exact c1
  | 2, _ => exact c2
  | 3, _ => exact c3
  | 4, _ => exact c4
  | 5, _ => exact c5
  | 6, _ => exact c6
  | 7, _ => exact c7
  | 8, _ => exact c8
  | 9, _ => exact c9
  | 10, _ => exact c10
  | n + 11, h => omega

set_option maxRecDepth 100000 in
set_option maxHeartbeats 1000000 in
theorem putHead_any {A : Nat → Prop} {w : World} {wb d : Nat} {X : WS} (h : Wl A w wb d X) (hn : X.sg ≠ []) (hfew : X.sg.length ≤ 1000000000) (hl : X.last.n ≤ 99999999) (hb : X.last.b ≤ 1000000000000) (p1 p2 : PD)
    (hx : doAppend X.p (nmL X.last.n) (txsB [X.J.head X.last.n]) = (0, p1)) (hy : doSync p1 (nmL X.last.n) = (0, p2)) :
    Calls Tryz.prog 163 #[.pointer (some ⟨wb, 0, none⟩)] w fun e w' => e = .returned (.tuple #[]) ∧ Wth A w w' wb d (X.headed p2) := by
  have hX := h
  obtain ⟨S, L, b, sv, k, h⟩ := h
  obtain ⟨n, hn'⟩ : ∃ n, X.sg.length = n + 1 := ⟨X.sg.length - 1, by have := List.length_pos_iff.2 hn; omega⟩
  obtain ⟨g, cap, hsv, hg, hAg, -, s0, s1⟩ := h.at_last hn'
  subst hsv
  obtain ⟨⟨c0, c1, c2, c3, c4⟩, -⟩ := cells5w h.hw
  have hok := h.hj.ok
  have HLS : Hid (Calls Tryz.prog 94 #[.pointer (some ⟨wb, 0, none⟩)] w fun e w' => e = .returned (.pointer (some ⟨g, n * 2, none⟩)) ∧ w'.cell? ⟨g, n * 2, none⟩ = some (.int .i64 (X.last.n : Int)) ∧ Hid (Below w.heap.size w w')) :=
    (lastSeg_any w wb g n cap c2 (by omega)).mono fun e w' ⟨he, q, hq⟩ => ⟨he, by rw [hq]; exact s0, by rw [hq]; exact below_drewN (Below.refl _ _) q⟩
  have HHD : Hid (∀ W, Below w.heap.size w W → Calls Tryz.prog 207 #[.pointer (some ⟨wb, 0, none⟩), .int .i64 (X.last.n : Int)] W fun e w' => e = .returned (X.J.head X.last.n).val ∧ Hid (Below w.heap.size w w')) := fun W hB =>
    (head_any (hX.below hB) X.last.n).mono fun e w' ⟨he, h2⟩ => ⟨he, hB.trans (h2.mono hB.size)⟩
  have HAP : Hid (∀ W, Below w.heap.size w W → Calls Tryz.prog 119 #[.pointer (some ⟨wb, 0, none⟩), .slice (some ⟨W.heap.size, 0, none⟩) 1 1] (W.alloc (.cells #[.int .i64 ((X.J.head X.last.n).k : Int), .int .i64 ((X.J.head X.last.n).sg : Int), .int .i64 (X.J.head X.last.n).t, .int .i64 (X.J.head X.last.n).v, .int .i64 (X.J.head X.last.n).c, .int .i64 (X.J.head X.last.n).i, .int .i64 (X.J.head X.last.n).tm, .int .i64 (X.J.head X.last.n).e.t, .int .i64 (X.J.head X.last.n).e.i, .int .i64 (X.J.head X.last.n).e.k, (X.J.head X.last.n).e.x] 177)) fun e w' => e = .returned (.tuple #[]) ∧ Hid (Wth A w w' wb d (WS.grow { X with p := p1 } (txsB [X.J.head X.last.n]).length))) := fun W hB => by
    have hB' : Below w.heap.size w (W.alloc (.cells #[.int .i64 ((X.J.head X.last.n).k : Int), .int .i64 ((X.J.head X.last.n).sg : Int), .int .i64 (X.J.head X.last.n).t, .int .i64 (X.J.head X.last.n).v, .int .i64 (X.J.head X.last.n).c, .int .i64 (X.J.head X.last.n).i, .int .i64 (X.J.head X.last.n).tm, .int .i64 (X.J.head X.last.n).e.t, .int .i64 (X.J.head X.last.n).e.i, .int .i64 (X.J.head X.last.n).e.k, (X.J.head X.last.n).e.x] 177)) := bel_alloc' hB _
    refine (appendW_any (hX.below hB') hn hfew hl hb [X.J.head X.last.n] (some ⟨W.heap.size, 0, none⟩) 1 (rds_one W _) ⟨by simp, by unfold maxLen; omega⟩ (fun r hr => by obtain rfl := List.mem_singleton.1 hr; exact head_num hok hl) (fun r hr => by obtain rfl := List.mem_singleton.1 hr; exact Sl.nil _ _) (by simp) p1 hx).mono ?_
    rintro e w' ⟨he, hT⟩
    exact ⟨he, Wth.of_below hX hB' hT⟩
  have HSY : Hid (∀ W, Wth A w W wb d (WS.grow { X with p := p1 } (txsB [X.J.head X.last.n]).length) → Calls Tryz.prog 49 #[.pointer (some ⟨wb, 0, none⟩)] W fun e w' => e = .returned (.tuple #[]) ∧ Wth A w w' wb d (X.headed p2)) := fun W hT => by
    have hlast := last_grow { X with p := p1 } (txsB [X.J.head X.last.n]).length
    refine (syncW_any hT.q (by simp [WS.grow]) (by simp [WS.grow]; omega) (by rw [hlast]; exact hl) p2 (by rw [hlast]; exact hy)).mono ?_
    rintro e w' ⟨he, hT2⟩
    exact ⟨he, hT.trans hT2⟩
  clear hX h hn hfew hl hb hx hy hAg s0 s1 c0 c1 c2 c3 c4 hok hg hn'
  generalize X.J.head X.last.n = R at *
  generalize X.last.n = ln at *
  unfold Rd.val at HHD
  unfold Ent.x at HHD HAP
  go_enter Tryz.func163, Tryz.ntmps163
  go_wp2_with (first
    | (go_at_call 94; refine HLS.out.mono ?_; rintro e w1 ⟨rfl, k0, HB1⟩)
    | (go_at_call 207; refine (HHD.out _ HB1.out).mono ?_; rintro e w2 ⟨rfl, HB2⟩)
    | (go_at_call 119; refine (HAP.out w2 HB2.out).mono ?_; rintro e w3 ⟨rfl, HT3⟩)
    | (go_at_call 49; refine (HSY.out _ HT3.out).mono ?_; rintro e w4 ⟨rfl, HT4⟩))
  go_end0
  exact ⟨rfl, HT4⟩

theorem set5_2 {w : World} {B : Nat} {x0 x1 x2 x3 x4 : Value} {t : TypeId} (h : w.heap[B]? = some (.cells #[x0, x1, x2, x3, x4] t (0, 0))) (y2 : Value) :
    (w.setCell ⟨B, 2, none⟩ y2).heap[B]? = some (.cells #[x0, x1, y2, x3, x4] t (0, 0)) := by
  rw [heap_set h 2 y2]; rfl
/-- One segment more. -/
theorem WlO.push_seg {A S L : Nat → Prop} {w W w5 : World} {wb d b : Nat} {sv sv' : Value} {k : DS} {X : WS} (h : WlO A S L w wb d b sv k X) (s : Sg) (hB : Below w.heap.size w W) (hr : Ro RSg 0 w5 sv' (X.sg ++ [s])) (hg : W.grownBy w5 sv.ownBlock) (hv : sv'.ownBlock = sv.ownBlock ∨ sv'.ownBlock = some W.heap.size) :
    (w5.cell? ⟨wb, 2, none⟩ = some sv ∧ w5.frozen? ⟨wb, 2, none⟩ = false) ∧ Wth A w (w5.setCell ⟨wb, 2, none⟩ sv') wb d { X with sg := X.sg ++ [s] } := by
  have wlt := (Array.getElem?_eq_some_iff.1 h.hw).1
  have hw5 : w5.heap[wb]? = _ := (hg.block wb (Nat.lt_of_lt_of_le wlt hB.size) (fun e => h.not_wb e.symm)).trans ((hB.block wb wlt).trans h.hw)
  obtain ⟨⟨-, -, c2, -, -⟩, cf⟩ := cells5w hw5
  have hne : sv'.ownBlock ≠ some wb := hr.not_at hw5 (fun c z e => by cases e)
  refine ⟨⟨c2, cf 2⟩, ?_⟩
  have hO : Out (fun i => i = wb ∨ sv.ownBlock = some i) w (w5.setCell ⟨wb, 2, none⟩ sv') :=
    ((Out.of_below (X := fun i => i = wb ∨ sv.ownBlock = some i) hB).trans (Out.grown hg (X := fun i => i = wb ∨ sv.ownBlock = some i) (fun j hj => .inr hj)) (fun i hi _ => hi)).put (.inl rfl)
  exact h.segs (br' := X.br) hO (set5_2 hw5 sv') (hr.out (X := fun i => i = wb) (Out.set rfl) (fun g hg e => hne (by rw [← e]; exact hg))) (fun g hg => hv.elim (fun e => .inl (by rw [← e]; exact hg)) (fun e => .inr (by rw [e] at hg; cases hg; exact hB.size)))
end Go.Proofs.YtnahghldlkjleaaGreatDoor
namespace Go.Proofs.YtnahghldlkjleaaGreatDoor
open Go.RowKit
set_option linter.unusedVariables false

def WS.begun (X : WS) (m : Nat) (p0 : PD) : WS := { X with p := p0, sg := X.sg ++ [⟨m, 0⟩] }
theorem last_begun (X : WS) (m : Nat) (p0 : PD) : (X.begun m p0).last = ⟨m, 0⟩ := by
  show (X.sg ++ [(⟨m, 0⟩ : Sg)]).getLastD sg0 = _
  simp [List.getLastD_eq_getLast?]

set_option maxRecDepth 100000 in
set_option maxHeartbeats 1000000 in
theorem begin_any {A : Nat → Prop} {w : World} {wb d : Nat} {X : WS} (h : Wl A w wb d X) (m : Nat) (hm1 : 1 ≤ m) (hm : m ≤ 99999999) (hfew : X.sg.length < 1000000000) (p0 p1 p2 : PD)
    (hc : doCreate X.p (nmL m) = (0, p0)) (hx : doAppend p0 (nmL m) (txsB [X.J.head m]) = (0, p1)) (hy : doSync p1 (nmL m) = (0, p2)) :
    Calls Tryz.prog 109 #[.pointer (some ⟨wb, 0, none⟩), .int .i64 (m : Int)] w fun e w' => e = .returned (.tuple #[]) ∧ Wth A w w' wb d ((X.begun m p0).headed p2) := by
  have hX := h
  obtain ⟨S, L, b, sv, k, h⟩ := h
  have HNM : Hid (Calls Tryz.prog 26 #[.int .i64 (m : Int)] w fun e w' => e = .returned (.tuple #[.string ⟨(nmL m).toArray⟩, .int .i64 0]) ∧ Hid (Below w.heap.size w w') ∧ w'.cell? ⟨wb, 0, none⟩ = some (.pointer (some ⟨d, 0, none⟩))) := by
    have := name_any (m : Int) w hX.vars
    rw [if_pos ⟨by omega, by omega⟩, Int.toNat_natCast] at this
    exact this.mono fun e w' ⟨he, hB⟩ => ⟨he, hB, (cells5w (h.below hB).hw).1.1⟩
  have HM : Hid (∀ W, Calls Tryz.prog 92 #[.int .i64 0] W fun e w' => e = .returned (.tuple #[]) ∧ w' = W) := fun W => must_ok W
  have HCR : Hid (∀ W, Below w.heap.size w W → Calls Tryz.prog 162 #[.pointer (some ⟨d, 0, none⟩), .string ⟨(nmL m).toArray⟩] W fun e w' => e = .returned (.int .i64 0) ∧ w'.cell? ⟨wb, 2, none⟩ = some sv ∧ Hid (Ro RSg 0 w' sv X.sg) ∧ Hid (∀ W2 w5 sv', Below w'.heap.size w' W2 → Ro RSg 0 w5 sv' (X.sg ++ [⟨m, 0⟩]) → W2.grownBy w5 sv.ownBlock → (sv'.ownBlock = sv.ownBlock ∨ sv'.ownBlock = some W2.heap.size) → (w5.cell? ⟨wb, 2, none⟩ = some sv ∧ w5.frozen? ⟨wb, 2, none⟩ = false) ∧ Hid (Wth A w (w5.setCell ⟨wb, 2, none⟩ sv') wb d (X.begun m p0)))) := fun W hB => by
    have h1 := h.below hB
    refine (create_any h1.hd (nmL m) (by rw [nmL_len]; unfold maxLen; omega)).mono ?_
    rintro e w' ⟨k', rfl, hA, hp⟩
    rw [h1.hp, hc] at hp
    rw [h1.hp, hc]
    obtain ⟨h2, hO2⟩ := h1.diskO hA
    rw [hp] at h2
    refine ⟨rfl, (cells5w h2.hw).1.2.2.1, h2.hs, fun W2 w5 sv' hB2 hr hg hv => ?_⟩
    obtain ⟨q1, q2⟩ := h2.push_seg ⟨m, 0⟩ hB2 hr hg hv
    exact ⟨q1, Wth.of_below hX hB (Wth.trans ⟨⟨_, _, _, _, _, h2⟩, hO2⟩ q2)⟩
  have HPH : Hid (∀ W, Wth A w W wb d (X.begun m p0) → Calls Tryz.prog 163 #[.pointer (some ⟨wb, 0, none⟩)] W fun e w' => e = .returned (.tuple #[]) ∧ Wth A w w' wb d ((X.begun m p0).headed p2)) := fun W hT => by
    have hlast := last_begun X m p0
    refine (putHead_any hT.q (by simp [WS.begun]) (by simp [WS.begun]; omega) (by rw [hlast]; exact hm) (by rw [hlast]; show 0 ≤ _; omega) p1 p2 (by rw [hlast]; exact hx) (by rw [hlast]; exact hy)).mono ?_
    rintro e w' ⟨he, hT2⟩
    exact ⟨he, hT.trans hT2⟩
  have hl := h.hs.shape
  obtain ⟨sa, sc, rfl, -, -⟩ := hl
  have hsl : X.sg.length ≤ 1000000000 := by omega
  clear hX h hm1 hm hfew hc hx hy
  generalize nmL m = nm at *
  generalize (X.begun m p0).headed p2 = XH at *
  generalize X.begun m p0 = XB at *
  go_enter Tryz.func109, Tryz.ntmps109
  go_wp2_with (first
    | (go_at_call 26; refine HNM.out.mono ?_; rintro e w1 ⟨rfl, HB1, k1⟩)
    | (go_at_call 92; refine (HM.out _).mono ?_; rintro e w2 ⟨rfl, hw2⟩; subst w2)
    | (go_at_call 162; refine (HCR.out _ HB1.out).mono ?_; rintro e w3 ⟨rfl, k3, HR3, HF3⟩)
    | (at_builtin; refine wpList_append_ro RSg rfl _ _ rfl 0 (.slice sa X.sg.length sc) X.sg ⟨m, 0⟩ rfl HR3.out (B := w3.heap.size) rfl rfl hsl (Nat.zero_le _) ?_; intro sv' w5 q1 q2 q3; obtain ⟨⟨k5, kf5⟩, HT5⟩ := HF3.out _ w5 sv' (bel_alloc' (Below.refl _ _) _) q1 q2 (by rcases q3 with e | e; exact .inl e; exact .inr (by simpa using e)); clear q2 q3; obtain ⟨a5, n5, c5, rfl⟩ := row_slice q1; clear q1)
    | (go_at_call 163; refine (HPH.out _ HT5.out).mono ?_; rintro e w6 ⟨rfl, HT6⟩)
    | fail)
  go_end0
  exact ⟨rfl, HT6⟩
end Go.Proofs.YtnahghldlkjleaaGreatDoor
