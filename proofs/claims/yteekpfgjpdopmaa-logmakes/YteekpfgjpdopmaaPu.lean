/-
  put.
-/
import Derived.Test.YteekpfgjpdopmaaAd
import Derived.Test.YteekpfgjpdopmaaDl
import Derived.Test.YteekpfgjpdopmaaAo
namespace Go.Proofs.Yteekpfgjpdopmaa
open Go.RowKit
set_option linter.unusedVariables false

/-- Entries that stay, whatever of S turns. -/
def Sta (S : Nat → Prop) (w : World) (va : Option Addr) (es : List Ent) : Prop := ∀ w', Out S w w' → ∃ M, M ≤ w'.heap.size ∧ EntsAt M w' va es
theorem Sta.out {S : Nat → Prop} {w w1 : World} {va : Option Addr} {es : List Ent} (h : Sta S w va es) (hO : Out S w w1) : Sta S w1 va es := fun w' h' => h w' (hO.trans h' (fun i hi _ => hi))
theorem Sta.at {S : Nat → Prop} {w : World} {va : Option Addr} {es : List Ent} (h : Sta S w va es) : ∃ M, M ≤ w.heap.size ∧ EntsAt M w va es := h w (Out.refl _ _)

/-- The log behind a put, behind its first k0 entries. -/
def puP (P : PL) (k0 : Nat) (F : List En) : PL := ⟨P.bi, P.bt, P.E.take k0 ++ F, min P.h (P.bi + (k0 : Int)), min P.s (P.bi + (k0 : Int)), P.c, P.g, P.a⟩
/-- May it be? -/
def puY (P : PL) (k0 n : Nat) : Bool := decide (P.c ≤ P.bi + (k0 : Int)) && decide (k0 + n ≤ 10000)

set_option maxRecDepth 100000 in
set_option maxHeartbeats 2000000 in
/-- put, refused. -/
theorem put_no {N : Nat} {S : Nat → Prop} {w : World} {b : Nat} {P : PL} (h : Lg N S w b P) (va : Option Addr) (vc : Nat) (fs : List Ent) (k0 : Nat) (hS : Sta S w va fs) (hn : fs.length ≤ 1000000) (hf : 0 < fs.length) (hi : (fs.getD 0 nilEnt).i = P.bi + (k0 : Int) + 1) (hk : k0 ≤ P.E.length) (hy : puY P k0 fs.length = false) :
    Calls Try.prog 75 #[.pointer (some ⟨b, 0, none⟩), .slice va fs.length vc] w fun e w' => e = .returned (.bool false) ∧ Below w.heap.size w w' := by
  obtain ⟨M, hM, hE⟩ := hS.at
  obtain ⟨b1, off, rfl, hbM, c0, c1, -⟩ := hE.at hf
  rw [hi] at c1
  simp only [Nat.zero_mul, Nat.add_zero] at c1
  obtain ⟨la, lc, es, hb, -⟩ := h.cells
  obtain ⟨⟨m0, -, -, -, -, m5, -, -⟩, -⟩ := cells8 hb
  have hbw := h.inn _ h.Sb
  have hlim := h.ok.lim
  have hb0 := h.ok.b0
  have hlen := h.ok.len
  have hlim2 : P.bi + (k0 : Int) ≤ 4611686018427387904 := by unfold PL.li at hlim; omega
  have hw1 : P.bi + (k0 : Int) + 1 - 1 = P.bi + (k0 : Int) := by omega
  have hw2 : P.bi + (k0 : Int) - P.bi = (k0 : Int) := by omega
  have hf' : (0 : Int) < (fs.length : Int) := by omega
  clear hE hi hb h hS
  unfold puY at hy
  by_cases h1 : P.c ≤ P.bi + (k0 : Int)
  · have h2 : (10000 : Int) < (k0 : Int) + (fs.length : Int) := by simp [h1] at hy; omega
    clear hy
    generalize P.c = cc at *
    generalize fs.length = n at *
    go_enter Try.func75, Try.ntmps75
    go_wp2
    go_ret
    exact ⟨rfl, Below.refl _ _⟩
  · clear hy
    generalize P.c = cc at *
    generalize fs.length = n at *
    go_enter Try.func75, Try.ntmps75
    go_wp2
    go_ret
    exact ⟨rfl, Below.refl _ _⟩

set_option maxRecDepth 100000 in
set_option maxHeartbeats 8000000 in
/-- put, taken. -/
theorem put_ok {N : Nat} {S : Nat → Prop} {w : World} {b : Nat} {P : PL} (h : Lg N S w b P) (hN : N ≤ w.heap.size) (va : Option Addr) (vc : Nat) (fs : List Ent) (k0 : Nat) (hS : Sta S w va fs) (hn : fs.length ≤ 100000) (hd : ∀ e ∈ fs, e.d.length ≤ 1000000000) (hf : 0 < fs.length) (hi : (fs.getD 0 nilEnt).i = P.bi + (k0 : Int) + 1) (hk : k0 ≤ P.E.length) (hy : puY P k0 fs.length = true) (hok : (puP P k0 (fs.map Ent.says)).Ok) :
    Calls Try.prog 75 #[.pointer (some ⟨b, 0, none⟩), .slice va fs.length vc] w fun e w' => e = .returned (.bool true) ∧ LTh N S w w' b (puP P k0 (fs.map Ent.says)) := by
  obtain ⟨M, hM, hE⟩ := hS.at
  obtain ⟨b1, off, rfl, hbM, c0, c1, -⟩ := hE.at hf
  rw [hi] at c1
  simp only [Nat.zero_mul, Nat.add_zero] at c1
  obtain ⟨la, lc, es, hb, ho, hsy, hl, hvc, hvm, hv1, hv2⟩ := h.cells
  obtain ⟨⟨m0, -, m2, -, -, m5, -, -⟩, mf⟩ := cells8 hb
  have hbw := h.inn _ h.Sb
  have hlim := h.ok.lim
  have hb0 := h.ok.b0
  have hlen := h.ok.len
  have hlim2 : P.bi + (k0 : Int) ≤ 4611686018427387904 := by unfold PL.li at hlim; omega
  have hw1 : P.bi + (k0 : Int) + 1 - 1 = P.bi + (k0 : Int) := by omega
  have hw2 : P.bi + (k0 : Int) - P.bi = (k0 : Int) := by omega
  have hf' : (0 : Int) < (fs.length : Int) := by omega
  have hy1 : P.c ≤ P.bi + (k0 : Int) := by unfold puY at hy; simp at hy; omega
  have hy2 : (k0 : Int) + (fs.length : Int) ≤ 10000 := by unfold puY at hy; simp at hy; omega
  have hes : (es.take k0).length = k0 := by simp; omega
  have hne : (Value.slice la P.E.length lc).ownBlock ≠ some b := ho.not_at hb (by decide)
  -- the two calls
  have HDEL : Hid (∀ X, Below w.heap.size w X → Calls Try.prog 84 #[.slice la P.E.length lc, .int .i64 (k0 : Int), .int .i64 (P.E.length : Int)] X fun e w' => e = .returned (.slice la k0 lc) ∧ EntsOw 0 w' (.slice la k0 lc) (es.take k0) ∧ Out (fun i => (Value.slice la P.E.length lc).ownBlock = some i) X w' ∧ w'.heap.size = X.heap.size) := fun X hX => by
    have := delete_any la lc k0 es X (by rw [hl]; exact ho.below hX) (by omega) (by omega)
    rw [hl] at this
    exact this
  have HCPY : Hid (∀ X, Out S w X → Calls Try.prog 42 #[.slice (some ⟨b1, off, none⟩) fs.length vc] X fun e w' => ∃ v gs, e = .returned v ∧ EntsOw X.heap.size w' v gs ∧ gs.map Ent.says = fs.map Ent.says ∧ Below X.heap.size X w') := fun X hX => by
    obtain ⟨M', hM', hE'⟩ := hS X hX
    exact copies_any _ vc fs M' X hE' hM' hn hd
  -- behind both
  have HCELL : Hid (∀ X : World, Out (fun i => (Value.slice la P.E.length lc).ownBlock = some i) w X → X.heap[b]? = some (.cells #[.int .i64 P.bi, .int .i64 P.bt, .slice la P.E.length lc, .int .i64 P.h, .int .i64 P.s, .int .i64 P.c, .int .i64 P.g, .int .i64 P.a] 79 (0, 0)) ∧ X.cell? ⟨b, 2, none⟩ = some (.slice la P.E.length lc) ∧ b < X.heap.size) := fun X hX => by
    have h1 := (hX.block b hbw hne).trans hb
    exact ⟨h1, (cells8 h1).1.2.2.1, (Array.getElem?_eq_some_iff.1 h1).1⟩
  have HAFT : Hid (∀ w4 w5 v2 gs v', EntsOw 0 w4 (.slice la k0 lc) (es.take k0) → EntsOw w.heap.size w4 v2 gs → gs.map Ent.says = fs.map Ent.says → Out (fun i => (Value.slice la P.E.length lc).ownBlock = some i) w w4 → w5.ownsRow 0 40 4 v' ((es.take k0).length + gs.length) (entCells (es.take k0) ++ entCells gs) → w4.grownBy w5 (Value.slice la k0 lc).ownBlock → (v'.ownBlock = (Value.slice la k0 lc).ownBlock ∨ v'.ownBlock = some w4.heap.size) → (w5.cell? ⟨b, 2, none⟩ = some (.slice la P.E.length lc) ∧ w5.frozen? ⟨b, 2, none⟩ = false) ∧ (∃ sa sc, v' = .slice sa (k0 + fs.length) sc) ∧ b < w5.heap.size ∧ Lm N (grew S w (w5.setCell ⟨b, 2, none⟩ v')) (w5.setCell ⟨b, 2, none⟩ v') b ⟨P.bi, P.bt, P.E.take k0 ++ fs.map Ent.says, P.h, P.s, P.c, P.g, P.a⟩ ∧ Out S w (w5.setCell ⟨b, 2, none⟩ v')) := fun w4 w5 v2 gs v' h4 h4g hgs hO4 hrow hg5 hv' => by
    have hgl : gs.length = fs.length := by have := congrArg List.length hgs; simpa using this
    have hob : (Value.slice la k0 lc).ownBlock = (Value.slice la P.E.length lc).ownBlock := by cases la <;> rfl
    have hO5 : Out (fun i => (Value.slice la P.E.length lc).ownBlock = some i) w w5 := hO4.trans (Out.grown hg5 (X := fun i => (Value.slice la P.E.length lc).ownBlock = some i) (fun j hj => by rw [← hob]; exact hj)) (fun i hi _ => hi)
    have hb5 := (hO5.block b hbw hne).trans hb
    have h5 : EntsOw 0 w5 v' (es.take k0 ++ gs) := h4.app (fun e he => (h4g.dat e he).base (Nat.zero_le _)) hrow hg5
    have hne5 : v'.ownBlock ≠ some b := h5.not_at hb5 (by decide)
    have hO6 : Out S w (w5.setCell ⟨b, 2, none⟩ v') := (hO5.mono (fun i hi => hv1 i hi)).put h.Sb
    have h6 : EntsOw 0 (w5.setCell ⟨b, 2, none⟩ v') v' (es.take k0 ++ gs) := h5.out (X := fun i => i = b) (Out.set rfl) (by rintro g hg rfl; exact hne5 hg) (by rintro e he g hg rfl; exact (h5.dat e he).not_at hb5 (by decide) hg)
    obtain ⟨q, qf⟩ := cells8 hb5
    refine ⟨⟨q.2.2.1, qf 2⟩, ?_, (Array.getElem?_eq_some_iff.1 hb5).1, ⟨⟨v', es.take k0 ++ gs, heap_set hb5 2 v', h6, ?_, fun g hg => ?_, fun e he g hg => ?_⟩, .inl h.Sb, ?_, ?_⟩, hO6⟩
    · have := row_shape hrow
      rw [hes, hgl] at this
      exact this
    · rw [List.map_append, List.map_take, hsy, hgs]
    · rcases hv' with e | e
      · exact .inl (hv1 g (by rw [← hob, ← e]; exact hg))
      · right
        rw [e] at hg
        cases hg
        exact ⟨hO4.size, (h6.lt e).2⟩
    · rcases List.mem_append.1 he with he | he
      · exact .inl (hv2 e (List.mem_of_mem_take he) g hg)
      · exact .inr ⟨((h4g.dat e he).lt hg).1, ((h6.dat e (List.mem_append_right _ he)).lt hg).2⟩
    · rintro i (hi | hi)
      · exact Nat.lt_of_lt_of_le (h.inn i hi) hO6.size
      · exact hi.2
    · rintro i (hi | hi)
      · exact h.fr i hi
      · omega
  -- the marks
  have HMV : Hid (∀ W W7 x s, Lm N (grew S w W) W b ⟨P.bi, P.bt, P.E.take k0 ++ fs.map Ent.says, P.h, P.s, P.c, P.g, P.a⟩ → Out S w W → Below W.heap.size W W7 → x = min P.h (P.bi + (k0 : Int)) → s = min P.s (P.bi + (k0 : Int)) → Calls Try.prog 78 #[.pointer (some ⟨b, 0, none⟩), .agg #[.int .i64 x, .int .i64 s, .int .i64 P.c, .int .i64 P.g, .int .i64 P.a]] W7 fun e w' => (∃ q, e = .returned (.bool q)) ∧ LTh N S w w' b (puP P k0 (fs.map Ent.says))) := fun W W7 x s hW hO hB hx hs => by
    subst hx
    subst hs
    refine (move_raw (hW.below hB) (by have := hO.size; have := hB.size; omega) (min P.h (P.bi + (k0 : Int))) (min P.s (P.bi + (k0 : Int))) P.c P.g P.a hok).mono ?_
    rintro e w' ⟨rfl, hK⟩
    have hO7 : Out S w w' := (hO.trans (Out.of_below hB) (fun i hi _ => hi)).trans hK.out (fun i hi hl => hi.elim id (fun h2 => absurd h2.1 (by omega)))
    refine ⟨⟨_, rfl⟩, ⟨?_, hO7⟩⟩
    obtain ⟨v, es', q1, q2, q3, q4, q5⟩ := hK.q.at_
    have hsz : W.heap.size ≤ w'.heap.size := Nat.le_trans hB.size hK.out.size
    exact ⟨⟨v, es', q1, q2, q3, fun g hg => grew_mono hsz (q4 g hg), fun e he g hg => grew_mono hsz (q5 e he g hg)⟩, hok, .inl h.Sb, fun i hi => hi.elim (fun h' => Nat.lt_of_lt_of_le (h.inn i h') hO7.size) (fun h' => h'.2), fun i hi => hi.elim (fun h' => h.fr i h') (fun h' => by omega)⟩
  have HES : Hid ((es.take k0).length = k0) := hes
  have HOB : Hid (∀ g, (Value.slice la P.E.length lc).ownBlock = some g → g < w.heap.size) := fun g hg => (ho.lt hg).2
  have HVS : Hid (∀ i, (Value.slice la P.E.length lc).ownBlock = some i → S i) := hv1
  clear hE hi hb h hS ho hsy hl hv1 hv2 hok hes hy hd
  generalize P.E.length = m at *
  go_enter Try.func75, Try.ntmps75
  go_wp2_with fail
  go_region_law (first
    | (refine step_append_ents rfl (.tmp 45) (.tmp 47) rfl 0 w4.heap.size (.slice la k0 lc) ga gc (es.take k0) gs (by simp [Act.eval]) hrow4 (by simp [Act.eval]) hat4 hlen4 (Nat.zero_le _) ?_; intro v' w5 q1 q2 q3; obtain ⟨⟨n2, nf⟩, ⟨sa, sc, hsh⟩, nb, hLm, hO6⟩ := HAFT.out w4 w5 _ gs v' hP4 hQ4 hgs hO4 q1 q2 q3; clear q1 q2 q3; subst hsh)
    | (go_simp; go_at_call 84; refine (HDEL.out _ hB3).mono ?_; rintro e w4 ⟨rfl, hP4, hO4', hz4⟩; have hO4 : Out (fun i => (Value.slice la m lc).ownBlock = some i) w w4 := (Out.of_below hB3).trans hO4' (fun i hi _ => hi); have hQ4 : EntsOw w.heap.size w4 (.slice ga gs.length gc) gs := hQ3.out hO4' (fun g hg hx => by have := HOB.out g hx; have := (hQ3.lt hg).1; omega) (fun e he g hg hx => by have := HOB.out g hx; have := ((hQ3.dat e he).lt hg).1; omega); have hrow4 : w4.ownsRow 0 40 4 (.slice la k0 lc) (es.take k0).length (entCells (es.take k0)) := hP4.row; have hat4 := hQ4.at; have hlen4 : (es.take k0).length + gs.length ≤ 1000000000 := (by rw [HES.out]; have := congrArg List.length hgs; simp at this; omega); obtain ⟨-, y2, yb⟩ := HCELL.out w4 hO4; clear hO4')
    | (go_simp; go_at_call 84; refine (HDEL.out w.drew (Below.refl _ w).drew).mono ?_; rintro e w2 ⟨rfl, hP2, hO2', hz2⟩; have hO2 : Out (fun i => (Value.slice la m lc).ownBlock = some i) w w2 := ⟨hO2'.os, hO2'.tape, hO2'.output, hO2'.size, hO2'.block⟩; obtain ⟨-, y2, yb⟩ := HCELL.out w2 hO2; clear hO2')
    | (go_simp; go_at_call 42; refine (HCPY.out _ (hO2.mono (fun i hi => HVS.out i hi))).mono ?_; rintro e w4 ⟨v4, gs, rfl, hQ4', hgs, hB4⟩; have hQ4 : EntsOw w.heap.size w4 v4 gs := hQ4'.base hO2.size; have hP4 := hP2.below hB4; have hO4 : Out (fun i => (Value.slice la m lc).ownBlock = some i) w w4 := hO2.trans (Out.of_below hB4) (fun i hi _ => hi); have hrow4 : w4.ownsRow 0 40 4 (.slice la k0 lc) (es.take k0).length (entCells (es.take k0)) := hP4.row; obtain ⟨ga, gc, rfl, -, -⟩ := hQ4.shape; have hat4 := hQ4.at; have hlen4 : (es.take k0).length + gs.length ≤ 1000000000 := (by rw [HES.out]; have := congrArg List.length hgs; simp at this; omega); obtain ⟨-, z2, zb⟩ := HCELL.out w4 hO4; clear hQ4' hB4)
    | (go_simp; go_at_call 42; refine (HCPY.out w.drew (Out.of_below (Below.refl _ w).drew)).mono ?_; rintro e w3 ⟨v3, gs, rfl, hQ3', hgs, hB3'⟩; have hB3 : Below w.heap.size w w3 := ⟨hB3'.os, hB3'.tape, hB3'.output, hB3'.size, hB3'.block⟩; have hQ3 : EntsOw w.heap.size w3 v3 gs := hQ3'; obtain ⟨ga, gc, rfl, -, -⟩ := hQ3.shape; obtain ⟨-, z2, zb⟩ := HCELL.out w3 (Out.of_below hB3); clear hQ3' hB3')
    | fail)
  all_goals
    obtain ⟨v6, es6, hb6, -⟩ := hLm.at_
    obtain ⟨⟨p0, p1, p2, p3, p4, p5, p6, p7⟩, pf⟩ := cells8 hb6
    have pb : b < (w5.setCell ⟨b, 2, none⟩ (.slice sa (k0 + fs.length) sc)).heap.size := by rw [size_set]; exact nb
    have HLM : Hid (Lm _ _ _ _ _) := hLm
    have HO6 : Hid (Out _ _ _) := hO6
    clear hLm hO6 hb6 hP4 hQ4 hgs hO4 hrow4 hat4 hlen4 n2 nf HAFT HDEL HCPY HCELL
    generalize w5.setCell ⟨b, 2, none⟩ (.slice sa (k0 + fs.length) sc) = W6 at *
    simp only at p3 p4 p5 p6 p7
    have HM2 : Hid (∀ x s, x = min P.h (P.bi + (k0 : Int)) → s = min P.s (P.bi + (k0 : Int)) → Calls Try.prog 78 #[.pointer (some ⟨b, 0, none⟩), .agg #[.int .i64 x, .int .i64 s, .int .i64 P.c, .int .i64 P.g, .int .i64 P.a]] (W6.alloc (.cells #[.int .i64 x, .int .i64 s, .int .i64 P.c, .int .i64 P.g, .int .i64 P.a] 55)) fun e w' => (∃ q, e = .returned (.bool q)) ∧ LTh N S w w' b (puP P k0 (fs.map Ent.says))) := fun x s hx hs => HMV.out W6 _ x s HLM.out HO6.out ((Below.refl _ _).alloc (Nat.le_refl _) _) hx hs
    clear HMV HLM HO6
    by_cases a1 : P.h ≤ P.bi + (k0 : Int)
    · by_cases a2 : P.s ≤ P.bi + (k0 : Int)
      · have hm := HM2.out P.h P.s (by omega) (by omega)
        go_wp2_with fail
        refine hm.mono ?_
        rintro r w8 ⟨⟨qq, rfl⟩, hT⟩
        go_wp2
        go_ret
        exact ⟨rfl, hT⟩
      · have hm := HM2.out P.h (P.bi + (k0 : Int)) (by omega) (by omega)
        go_wp2_with fail
        refine hm.mono ?_
        rintro r w8 ⟨⟨qq, rfl⟩, hT⟩
        go_wp2
        go_ret
        exact ⟨rfl, hT⟩
    · by_cases a2 : P.s ≤ P.bi + (k0 : Int)
      · have hm := HM2.out (P.bi + (k0 : Int)) P.s (by omega) (by omega)
        go_wp2_with fail
        refine hm.mono ?_
        rintro r w8 ⟨⟨qq, rfl⟩, hT⟩
        go_wp2
        go_ret
        exact ⟨rfl, hT⟩
      · have hm := HM2.out (P.bi + (k0 : Int)) (P.bi + (k0 : Int)) (by omega) (by omega)
        go_wp2_with fail
        refine hm.mono ?_
        rintro r w8 ⟨⟨qq, rfl⟩, hT⟩
        go_wp2
        go_ret
        exact ⟨rfl, hT⟩
end Go.Proofs.Yteekpfgjpdopmaa
