/-
  A ledger to which an entry is appended: what lies there between the two appends, and behind them. A ledger that turns: enter.
-/
import Derived.Test.YtnahghldlkjleaaGreatDoorWB
import Derived.Deep.RegionLaw
namespace Go.Proofs.YtnahghldlkjleaaGreatDoor
open Go.RowKit
set_option linter.unusedVariables false

theorem bel_alloc' {w W : World} (h : Below w.heap.size w W) (o : Obj) : Below w.heap.size w (W.alloc o) := h.alloc h.size _
theorem bel_drew' {w W : World} (h : Below w.heap.size w W) : Below w.heap.size w W.drew := below_drewN h 1
theorem bel_drewN' {w W : World} (h : Below w.heap.size w W) (n : Nat) : Below w.heap.size w (W.drewN n) := below_drewN h n
theorem bel_set' {w W : World} (h : Below w.heap.size w W) {B o : Nat} {v : Value} (hB : w.heap.size ≤ B) : Below w.heap.size w (W.setCell ⟨B, o, none⟩ v) := h.setCell (p := ⟨_, _, _⟩) hB _
theorem bel_heap {W w' : World} {R : Nat} {o : Obj} (hB : Below W.heap.size W w') (h : W.heap[R]? = some o) : w'.heap[R]? = some o := (hB.block R (Array.getElem?_eq_some_iff.1 h).1).trans h

/-- One entry more. -/
def LP.snoc (P : LP) (e : En) (sg : Nat) : LP := { P with E := P.E ++ [e], S := P.S ++ [sg] }
/-- A ledger, opened. -/
structure Jop (L : Nat → Prop) (w : World) (b : Nat) (P : LP) (ev sv : Value) (es : List Ent) (mb c : Nat) : Prop where
  hb : w.heap[b]? = some (.cells #[.int .i64 P.t, .int .i64 P.v, .int .i64 P.c, .int .i64 P.bi, .int .i64 P.bt, ev, sv, .map (some mb)] 132 (0, 0))
  ho : EntsOw 0 w ev es
  hs : es.map Ent.says = P.E
  hr : Ro RI 0 w sv P.S
  hm : w.ownsMap Tryz.prog 3 rdF mb 4 (chD c b)
  hc : Bxd w c b
  lm : L mb
  lc : L c
  le : ∀ g, ev.ownBlock = some g → L g
  ld : ∀ e ∈ es, ∀ g, e.x.ownBlock = some g → L g
  ls : ∀ g, sv.ownBlock = some g → L g
theorem Lj.op {L : Nat → Prop} {w : World} {b : Nat} {P : LP} (h : Lj L w b P) : ∃ va vc sa sc es mb c, Jop L w b P (.slice va P.E.length vc) (.slice sa P.E.length sc) es mb c ∧ es.length = P.E.length := by
  obtain ⟨va, vc, sa, sc, es, mb, c, hb, ho, hs, hl, hvc, hvm, hsc, hsm, hr, hm, hc, lm, lc, le, ld, ls⟩ := h.cells
  exact ⟨va, vc, sa, sc, es, mb, c, ⟨hb, ho, hs, hr, hm, hc, lm, lc, le, ld, ls⟩, hl⟩
theorem Jop.far {L : Nat → Prop} {w : World} {b : Nat} {P : LP} {ev sv : Value} {es : List Ent} {mb c : Nat} (h : Jop L w b P ev sv es mb c) : Jfar w b ev sv es mb c := jfar h.hb h.ho h.hr h.hm h.hc

/-- Between the two appends. -/
structure Jmid (w3 w6 : World) (b : Nat) (P : LP) (ev ev' sv : Value) (es' : List Ent) (mb : Nat) : Prop where
  hb : w6.heap[b]? = some (.cells #[.int .i64 P.t, .int .i64 P.v, .int .i64 P.c, .int .i64 P.bi, .int .i64 P.bt, ev', sv, .map (some mb)] 132 (0, 0))
  ho : EntsOw 0 w6 ev' es'
  hr : Ro RI 0 w6 sv P.S
  out : Out (fun i => i = b ∨ ev.ownBlock = some i) w3 w6
  own : ∀ g, ev'.ownBlock = some g → ev.ownBlock = some g ∨ w3.heap.size ≤ g
theorem push1 {L : Nat → Prop} {w3 : World} {b : Nat} {P : LP} {ev sv : Value} {es : List Ent} {mb c : Nat} (h : Jop L w3 b P ev sv es mb c) (x : Ent) (hx : Ow 0 w3 x.x x.d) {W4 w5 : World} {v' : Value} (hB : Below w3.heap.size w3 W4) (hrow : w5.ownsRow 0 88 4 v' (es.length + 1) (entCells es ++ entCells [x])) (hg : W4.grownBy w5 ev.ownBlock) (hv : v'.ownBlock = ev.ownBlock ∨ v'.ownBlock = some W4.heap.size) :
    (w5.cell? ⟨b, 5, none⟩ = some ev ∧ w5.frozen? ⟨b, 5, none⟩ = false) ∧ Jmid w3 (w5.setCell ⟨b, 5, none⟩ v') b P ev v' sv (es ++ [x]) mb := by
  have far := h.far
  have hbw : b < w3.heap.size := (Array.getElem?_eq_some_iff.1 h.hb).1
  have hb4 : W4.heap[b]? = _ := (hB.block b hbw).trans h.hb
  have hb5 : w5.heap[b]? = _ := (hg.block b (Nat.lt_of_lt_of_le hbw hB.size) (fun e => far.be e.symm)).trans hb4
  obtain ⟨⟨-, -, -, -, -, c5, -, -⟩, cf⟩ := cells8 hb5
  have ho4 := h.ho.below hB
  have hx4 : Ow 0 W4 x.x x.d := hx.below hB (Nat.le_refl _)
  have ho5 : EntsOw 0 w5 v' (es ++ [x]) := ho4.app (fun e he => by obtain rfl := List.mem_singleton.1 he; exact hx4) (by simpa using hrow) hg
  have hne5 : v'.ownBlock ≠ some b := ho5.not_at' hb5 (fun c z e => by cases e)
  have hO5 : Out (fun i => i = b ∨ ev.ownBlock = some i) w3 w5 := (Out.of_below (X := fun i => i = b ∨ ev.ownBlock = some i) hB).trans (Out.grown hg (X := fun i => i = b ∨ ev.ownBlock = some i) (fun j hj => .inr hj)) (fun i hi _ => hi)
  have oset : Out (fun i => i = b) w5 (w5.setCell ⟨b, 5, none⟩ v') := Out.set rfl
  refine ⟨⟨c5, cf 5⟩, ⟨set8_56 hb5 v', ho5.out oset (fun g hg e => hne5 (by rw [← e]; exact hg)) (fun e he g hg e2 => (ho5.dat e he).not_at' hb5 (fun c z e => by cases e) (by rw [← e2]; exact hg)), ?_, hO5.put (.inl rfl), ?_⟩⟩
  · exact h.hr.out (hO5.put (.inl rfl)) (fun g hg hi => hi.elim (fun e => far.bs (by rw [← e]; exact hg)) (fun e => far.es g e hg))
  · intro g hg
    rcases hv with e | e
    · exact .inl (by rw [← e]; exact hg)
    · rw [e] at hg
      cases hg
      exact .inr hB.size
theorem push2 {L : Nat → Prop} {w3 w6 : World} {b : Nat} {P : LP} {ev ev' sv : Value} {es : List Ent} {mb c : Nat} (hL : Lj L w3 b P) (h : Jop L w3 b P ev sv es mb c) (x : Ent) (hxL : ∀ g, x.x.ownBlock = some g → L g) (sg : Nat) (hok : (P.snoc x.says sg).Ok) (m : Jmid w3 w6 b P ev ev' sv (es ++ [x]) mb)
    {W8 w9 : World} {s' : Value} (hB : Below w6.heap.size w6 W8) (hrow : Ro RI 0 w9 s' (P.S ++ [sg])) (hg : W8.grownBy w9 sv.ownBlock) (hv : s'.ownBlock = sv.ownBlock ∨ s'.ownBlock = some W8.heap.size) :
    (w9.cell? ⟨b, 6, none⟩ = some sv ∧ w9.frozen? ⟨b, 6, none⟩ = false) ∧ JTh L w3 (w9.setCell ⟨b, 6, none⟩ s') b (P.snoc x.says sg) := by
  have far := h.far
  have hbw : b < w6.heap.size := (Array.getElem?_eq_some_iff.1 m.hb).1
  have hbs : sv.ownBlock ≠ some b := far.bs
  have hb8 : W8.heap[b]? = _ := (hB.block b hbw).trans m.hb
  have hb9 : w9.heap[b]? = _ := (hg.block b (Nat.lt_of_lt_of_le hbw hB.size) (fun e => hbs e.symm)).trans hb8
  obtain ⟨⟨-, -, -, -, -, -, c6, -⟩, cf⟩ := cells8 hb9
  have hO9 : Out (fun i => sv.ownBlock = some i) w6 w9 := (Out.of_below (X := fun i => sv.ownBlock = some i) hB).trans (Out.grown hg (X := fun i => sv.ownBlock = some i) (fun j hj => hj)) (fun i hi _ => hi)
  have hOw : Out (fun i => i = b ∨ sv.ownBlock = some i) w6 (w9.setCell ⟨b, 6, none⟩ s') := (hO9.mono (fun i hi => .inr hi)).put (.inl rfl)
  have hsne : ∀ g, ev'.ownBlock = some g → sv.ownBlock ≠ some g := fun g hg => by
    obtain ⟨cur, hq⟩ := m.ho.obj hg
    exact m.hr.not_at hq (fun c z e => by cases e)
  have ho9 : EntsOw 0 (w9.setCell ⟨b, 6, none⟩ s') ev' (es ++ [x]) := m.ho.out hOw (fun g hg hi => hi.elim (fun e => m.ho.not_at' m.hb (fun c z e => by cases e) (by rw [← e]; exact hg)) (fun e => hsne g hg e))
    (fun e he g hg hi => hi.elim (fun e2 => (m.ho.dat e he).not_at' m.hb (fun c z e => by cases e) (by rw [← e2]; exact hg)) (fun e2 => by
      obtain ⟨cur, hq⟩ := m.hr.obj e2
      exact (m.ho.dat e he).not_at' hq (fun c z e => by cases e) hg))
  have hne9 : s'.ownBlock ≠ some b := hrow.not_at hb9 (fun c z e => by cases e)
  have hr9 : Ro RI 0 (w9.setCell ⟨b, 6, none⟩ s') s' (P.S ++ [sg]) := hrow.out (X := fun i => i = b) (Out.set rfl) (fun g hg e => hne9 (by rw [← e]; exact hg))
  refine ⟨⟨c6, cf 6⟩, ?_⟩
  refine Lj.turn (P' := P.snoc x.says sg) hL h.hm h.hc h.lm h.lc far.m far.c far.b5 h.le h.ls ?_ (set8_6 hb9 s') ho9 ?_ hr9 ?_ ?_ ?_ hok
  · exact (m.out.mono (Y := Jx b ev sv) (fun i hi => hi.elim .inl (fun e => .inr (.inl e)))).trans (hOw.mono (Y := Jx b ev sv) (fun i hi => hi.elim .inl (fun e => .inr (.inr e)))) (fun i hi _ => hi)
  · rw [List.map_append, h.hs]; rfl
  · exact fun g hg => (m.own g hg).imp (h.le g) id
  · intro e he g hg
    rcases List.mem_append.1 he with he | he
    · exact .inl (h.ld e he g hg)
    · obtain rfl := List.mem_singleton.1 he
      exact .inl (hxL g hg)
  · intro g hg
    rcases hv with e | e
    · exact .inl (h.ls g (by rw [← e]; exact hg))
    · rw [e] at hg
      cases hg
      have h1 := hB.size
      have h2 := m.out.size
      exact .inr (by omega)
end Go.Proofs.YtnahghldlkjleaaGreatDoor
namespace Go.Proofs.YtnahghldlkjleaaGreatDoor
open Go.RowKit
set_option linter.unusedVariables false

theorem row_slice {w : World} {N s n : Nat} {e : TypeId} {v : Value} {x : List Value} (h : w.ownsRow N e s v n x) : ∃ a m c, v = .slice a m c := by
  rcases h.2 with ⟨rfl, _⟩ | ⟨g, cap, cur, rfl, _⟩
  · exact ⟨_, _, _, rfl⟩
  · exact ⟨_, _, _, rfl⟩
/-- An append of entries, in a drawn region. -/
theorem step_append_ents {ops : Array Oper} {o : Oper} {a : Act} {w : World} {K : Act → World → Prop} {Q : Exit → Act → World → Prop} {E : Prop}
    (hg : o.guard = none) (s y : Operand) (hop : o.op = Op.call { callee := Callee.builtin Builtin.append, args := #[s, y], argTypes := #[37, 37] })
    (N M : Nat) (v : Value) (xa : Option Addr) (xc : Nat) (es fs : List Ent) (hs : a.eval s = v) (hv : w.ownsRow N 88 4 v es.length (entCells es)) (hy : a.eval y = .slice xa fs.length xc) (hx : EntsAt M w xa fs) (hlen : es.length + fs.length ≤ 1000000000) (hN : N ≤ w.heap.size)
    (hK : ∀ v' w', w'.ownsRow N 88 4 v' (es.length + fs.length) (entCells es ++ entCells fs) → w.grownBy w' v.ownBlock → (v'.ownBlock = v.ownBlock ∨ v'.ownBlock = some w.heap.size) → K (a.put o.dst v') w') :
    if Region.wanted o (yielded ops a.tmps) = true then Oper.wp Tryz.prog o a w K Q else E := by
  have hw : Region.wanted o (yielded ops a.tmps) = true := by simp [Region.wanted, hg]
  rw [if_pos hw]
  obtain ⟨v', w', hr, h2, h3, h4⟩ := run_append_ents o.type w N M v xa xc es fs hv hx hlen hN
  unfold Oper.wp
  simp [execOp, hop, resolve, invoke, builtin, hs, hy, hr, Result.andThen]
  exact hK v' w' h2 h3 h4
/-- What stands ahead of an entry that is entered. -/
def LP.room (P : LP) (i : Int) : LP := if P.bi < i then P.front (i - P.bi - 1).toNat else P.anew (i - 1) 0
def LP.enter (P : LP) (e : En) (sg : Nat) : LP := (P.room (eI e)).snoc e sg
/-- Is it no gap? -/
def LP.fits (P : LP) (i : Int) : Prop := 1 ≤ i ∧ i ≤ P.li + 1
/-- The base that an entry wants. -/
def LP.rebase (P : LP) (i : Int) : LP := if P.bi < i then P else P.anew (i - 1) 0
theorem LP.room_eq {P : LP} {i : Int} (hf : P.fits i) : (P.room i).bi = (P.rebase i).bi ∧ ∃ n : Nat, i - (P.rebase i).bi - 1 = (n : Int) ∧ n ≤ (P.rebase i).E.length ∧ (P.rebase i).front n = P.room i := by
  unfold LP.room LP.rebase
  obtain ⟨f1, f2⟩ := hf
  by_cases hb : P.bi < i
  · rw [if_pos hb, if_pos hb]
    refine ⟨rfl, (i - P.bi - 1).toNat, by omega, ?_, rfl⟩
    unfold LP.li at f2
    omega
  · rw [if_neg hb, if_neg hb]
    exact ⟨rfl, 0, by show i - (i - 1) - 1 = _; omega, Nat.zero_le _, by simp [LP.front, LP.anew]⟩
theorem LP.room_ok {P : LP} (h : P.Ok) {i : Int} (hf : P.fits i) (hi : i ≤ 4611686018427387904) : (P.room i).Ok ∧ (P.room i).li + 1 = i ∧ (P.room i).E.length ≤ P.E.length := by
  unfold LP.room
  obtain ⟨f1, f2⟩ := hf
  by_cases hb : P.bi < i
  · rw [if_pos hb]
    refine ⟨h.front _, ?_, by simp only [LP.front, List.length_take]; omega⟩
    unfold LP.li LP.front at *
    simp only [List.length_take]
    omega
  · rw [if_neg hb]
    refine ⟨h.anew ⟨by omega, by omega⟩ ⟨by omega, by omega⟩, ?_, by simp [LP.anew]⟩
    unfold LP.li LP.anew
    simp
theorem LP.Ok.snoc {P : LP} (h : P.Ok) {e : En} {sg : Nat} (hi : P.li + 1 = eI e) (hc : eCk e = 0) (hs : sg ≤ 99999999) (hf : P.E.length < 1000000000) : (P.snoc e sg).Ok where
  len := by simp [LP.snoc, h.len]
  b0 := h.b0
  t0 := h.t0
  top := by
    have := eCk_ok hc
    unfold LP.li LP.snoc at *
    simp only [List.length_append, List.length_cons, List.length_nil]
    omega
  ix := fun k hk => by
    simp only [LP.snoc, List.length_append, List.length_cons, List.length_nil] at hk ⊢
    by_cases hk2 : k < P.E.length
    · rw [show (P.E ++ [e]).getD k nilEn = P.E.getD k nilEn by simp only [List.getD_eq_getElem?_getD]; rw [List.getElem?_append_left hk2]]
      exact h.ix k hk2
    · have hk3 : k = P.E.length := by omega
      subst hk3
      rw [show (P.E ++ [e]).getD P.E.length nilEn = e by simp [List.getD_eq_getElem?_getD]]
      unfold LP.li at hi
      omega
  ck := fun x hx => by
    simp only [LP.snoc, List.mem_append, List.mem_singleton] at hx
    rcases hx with hx | rfl
    · exact h.ck x hx
    · exact hc
  st := h.st
  few := by simp only [LP.snoc, List.length_append, List.length_cons, List.length_nil]; omega
  sb := fun s hx => by
    simp only [LP.snoc, List.mem_append, List.mem_singleton] at hx
    rcases hx with hx | rfl
    · exact h.sb s hx
    · exact hs
/-- What a reach tells of an entry's place. -/
theorem wth_fits {P : LP} {i : Int} (hf : P.fits i) : wth P.bi P.li i = (true, (P.room i).bi, i) := by
  obtain ⟨f1, f2⟩ := hf
  unfold wth LP.room
  rw [if_neg (by omega)]
  by_cases hb : P.bi < i
  · rw [if_pos hb, if_pos hb]; rfl
  · rw [if_neg hb, if_neg hb]; rfl
theorem wth_gap {P : LP} {i : Int} (hf : ¬ P.fits i) : wth P.bi P.li i = (false, P.bi, P.li) := by
  unfold wth LP.fits at *
  rw [if_pos (by omega)]

/-- What lies there behind enter's first look. -/
def EnI (w : World) (x : Ent) (ok : Bool) (b l : Int) (v7 v8 : Value) (wx : World) : Prop :=
  ∃ R, v7 = .pointer (some ⟨R, 0, none⟩) ∧ v8 = .bool ok ∧ wx.heap[R]? = some (.cells #[.int .i64 b, .int .i64 l] 222 (0, 0)) ∧ w.heap.size < R ∧ wx.heap[w.heap.size]? = some (.cells #[.int .i64 x.t, .int .i64 x.i, .int .i64 x.k, x.x] 88 (0, 0)) ∧ Below w.heap.size w wx

theorem cells4' {w : World} {b : Nat} {t : TypeId} {v0 v1 v2 v3 : Value} (h : w.heap[b]? = some (.cells #[v0, v1, v2, v3] t (0, 0))) :
    (w.cell? ⟨b, 0, none⟩ = some v0 ∧ w.cell? ⟨b, 1, none⟩ = some v1 ∧ w.cell? ⟨b, 2, none⟩ = some v2 ∧ w.cell? ⟨b, 3, none⟩ = some v3) ∧ ∀ o, w.frozen? ⟨b, o, none⟩ = false := by
  refine ⟨⟨?_, ?_, ?_, ?_⟩, ?_⟩
  all_goals (first | (simp only [World.cell?, h]; rfl) | skip)
  intro o
  simp [World.frozen?, h]
/-- What enter answers. -/
def EnR (L : Nat → Prop) (w : World) (b : Nat) (P : LP) (x : Ent) (sg : Nat) (e : Ending) (w' : World) : Prop :=
  (¬ P.fits x.i ∧ e = .returned (.bool false) ∧ Below w.heap.size w w') ∨ (P.fits x.i ∧ e = .returned (.bool true) ∧ JTh L w w' b (P.enter x.says sg))

set_option maxRecDepth 100000 in
set_option maxHeartbeats 2000000 in
theorem enter_any {L : Nat → Prop} {w : World} {b : Nat} {P : LP} (h : Lj L w b P) (x : Ent) (sg : Nat) (hx : Ow 0 w x.x x.d) (hxL : ∀ g, x.x.ownBlock = some g → L g) (hck : eCk x.says = 0) (hsg : sg ≤ 99999999) (hfew : P.E.length < 1000000000) :
    Calls Tryz.prog 157 #[.pointer (some ⟨b, 0, none⟩), x.v, .int .i64 (sg : Int)] w fun e w' => EnR L w b P x sg e w' := by
  have HR : Hid (∀ W, Below w.heap.size w W → Calls Tryz.prog 169 #[.pointer (some ⟨b, 0, none⟩)] W fun e w' => e = .returned (.agg #[.int .i64 P.bi, .int .i64 P.li]) ∧ Below w.heap.size w w' ∧ Below W.heap.size W w') := fun W hB => (reach_any (h.below hB)).mono fun e w' ⟨h1, h2⟩ => ⟨h1, hB.trans (h2.mono hB.size), h2⟩
  have hlim := h.ok.lim
  obtain ⟨ok, b2, l2, hwt⟩ : ∃ ok b2 l2, wth P.bi P.li x.i = (ok, b2, l2) := ⟨_, _, _, rfl⟩
  have HWt : Hid (∀ W, Calls Tryz.prog 171 #[.agg #[.int .i64 P.bi, .int .i64 P.li], .int .i64 x.i] W fun e w' => e = .returned (.tuple #[.agg #[.int .i64 b2, .int .i64 l2], .bool ok]) ∧ Below W.heap.size W w') := fun W => by
    have := with_any P.bi P.li x.i W hlim
    rw [hwt] at this
    exact this
  have HH : Hid (Lj L w b P ∧ Ow 0 w x.x x.d ∧ (∀ g, x.x.ownBlock = some g → L g) ∧ eCk x.says = 0 ∧ sg ≤ 99999999 ∧ P.E.length < 1000000000 ∧ wth P.bi P.li x.i = (ok, b2, l2)) := ⟨h, hx, hxL, hck, hsg, hfew, hwt⟩
  obtain ⟨Q, hQ⟩ : ∃ Q, EnR L w b P x sg = Q := ⟨_, rfl⟩
  have HQ : Hid (EnR L w b P x sg = Q) := hQ
  rw [hQ]
  obtain ⟨bi, hbi⟩ : ∃ bi, P.bi = bi := ⟨_, rfl⟩
  obtain ⟨li, hli⟩ : ∃ li, P.li = li := ⟨_, rfl⟩
  rw [hbi, hli] at HR HWt
  have HBI : Hid (P.bi = bi) := hbi
  have HX0 : Hid (∀ W, Below (w.heap.size + 1) (w.alloc (.cells #[.int .i64 x.t, .int .i64 x.i, .int .i64 x.k, x.x] 88)) W → W.heap[w.heap.size]? = some (.cells #[.int .i64 x.t, .int .i64 x.i, .int .i64 x.k, x.x] 88 (0, 0))) := fun W hB => (hB.block _ (by omega)).trans (heap_alloc_new w _)
  clear h hlim hbi hli hQ hwt hx hxL hck hsg hfew
  unfold Ent.v
  go_enter Tryz.func157, Tryz.ntmps157
  go_upto_region 1 with fail
  go_cut [7, 8] (fun v7 v8 wx => EnI w x ok b2 l2 v7 v8 wx)
  case first =>
    obtain ⟨W0, hW0⟩ : ∃ W0, w.alloc (.cells #[.int .i64 x.t, .int .i64 x.i, .int .i64 x.k, x.x] 88) = W0 := ⟨_, rfl⟩
    rw [hW0] at HX0 ⊢
    have hz0 : W0.heap.size = w.heap.size + 1 := by rw [← hW0]; simp
    have hB0 : Below w.heap.size w W0 := by rw [← hW0]; exact (Below.refl _ w).alloc (Nat.le_refl _) _
    have HR' : Hid (∀ W, Below W0.heap.size W0 W → Calls Tryz.prog 169 #[.pointer (some ⟨b, 0, none⟩)] W fun e w' => e = .returned (.agg #[.int .i64 bi, .int .i64 li]) ∧ Below W0.heap.size W0 w' ∧ Below W.heap.size W w') := fun W hB => (HR.out W (hB0.trans (hB.mono hB0.size))).mono fun e w' ⟨h1, _, h3⟩ => ⟨h1, hB.trans (h3.mono hB.size), h3⟩
    have hx0 : ∀ W, Below W0.heap.size W0 W → W.cell? ⟨w.heap.size, 1, none⟩ = some (.int .i64 x.i) := fun W hB => by
      have := HX0.out W (by rw [← hz0]; exact hB)
      simp only [World.cell?, this]
      rfl
    have d0 := hx0 W0 (Below.refl _ _)
    have HWa : Hid (∀ W : World, Calls Tryz.prog 171 #[.agg #[.int .i64 bi, .int .i64 li], .int .i64 x.i] (W.alloc (.cells #[.int .i64 0, .int .i64 0] 222)) fun e w' => e = .returned (.tuple #[.agg #[.int .i64 b2, .int .i64 l2], .bool ok]) ∧ Below (W.alloc (.cells #[.int .i64 0, .int .i64 0] 222)).heap.size (W.alloc (.cells #[.int .i64 0, .int .i64 0] 222)) w' ∧ w'.heap[W.heap.size]? = some (.cells #[.int .i64 0, .int .i64 0] 222 (0, 0))) := fun W => (HWt.out _).mono fun e w' ⟨h1, h2⟩ => ⟨h1, h2, (h2.block _ (by simp)).trans (heap_alloc_new W _)⟩
    have HFI : Hid (∀ W R, Below W0.heap.size W0 W → W0.heap.size ≤ R → W.heap[R]? = some (.cells #[.int .i64 b2, .int .i64 l2] 222 (0, 0)) → EnI w x ok b2 l2 (.pointer (some ⟨R, 0, none⟩)) (.bool ok) W) := fun W R hB hR hv => ⟨R, rfl, rfl, hv, by omega, HX0.out W (by rw [← hz0]; exact hB), hB0.trans (hB.mono hB0.size)⟩
    clear HX0 HR HH HQ hB0 hW0
    go_region_law (first
      | (go_simp; go_at_call 169; refine (HR'.out _ ?hb).mono ?_; (case hb => (repeat (first | (with_reducible refine bel_alloc' ?_ _) | (with_reducible refine bel_drew' ?_) | (with_reducible refine bel_drewN' ?_ _))); exact Below.refl _ _); rintro e w1 ⟨rfl, hB1, hB1'⟩; have d1 := hx0 w1 hB1; have lw1 : w.heap.size < w1.heap.size := (by have := hB1.size; omega); have nw1 : w.heap.size ≠ w1.heap.size := (by omega); (try (have hv1 : w1.heap[w.heap.size + 1]? = some (.cells #[.int .i64 0, .int .i64 0] 222 (0, 0)) := bel_heap hB1' (by rw [← hz0]; exact heap_alloc_new _ _); have HV1 : Hid _ := hv1; clear hv1)))
      | (go_simp; go_at_call 171; refine (HWa.out w1).mono ?_; rintro e w2 ⟨rfl, hB2, hv⟩; obtain ⟨⟨v0, v1⟩, vf⟩ := cells2' hv; have HV : Hid _ := hv; have HB02 : Hid (Below W0.heap.size W0 w2) := (bel_alloc' hB1 _).trans (hB2.mono (bel_alloc' hB1 _).size))
      | (go_simp; go_at_call 171; refine (HWt.out _).mono ?_; rintro e w2 ⟨rfl, hB2⟩; have HB02 : Hid (Below W0.heap.size W0 w2) := hB1.trans (hB2.mono hB1.size); (try (have hv2 := bel_heap hB2 HV1.out; obtain ⟨⟨v0, v1⟩, vf⟩ := cells2' hv2; have HV2 : Hid _ := hv2))))
    all_goals
      (try go_wp2)
      go_meet
      first
        | exact HFI.out _ _ (bel_alloc' HB02.out _) HB02.out.size (heap_alloc_new _ _)
        | exact HFI.out _ _ (bel_set' (bel_set' HB02.out hB1.size) hB1.size) hB1.size (set2' HV.out _ _)
        | exact HFI.out _ _ (bel_set' (bel_set' HB02.out (Nat.le_of_eq hz0)) (Nat.le_of_eq hz0)) (Nat.le_of_eq hz0) (set2' HV2.out _ _)
        | skip
  case rest =>
    obtain ⟨R, hu7, hu8, hR, hRl, hX, hB⟩ := hcut
    subst hu7 hu8
    generalize wc = w1 at *
    clear wc HX0 HR HWt
    obtain ⟨h, hx, hxL, hck, hsg, hfew, hwt⟩ := HH.out
    have h1 := h.below hB
    have hlw := h.inn _ h.Lb
    by_cases hf : P.fits x.i
    · rw [wth_fits hf] at hwt
      cases hwt
      have HB1 : Hid (Below w.heap.size w w1) := hB
      have hxi : x.i ≤ 4611686018427387904 := (eCk_ok hck).2.2.2.1
      obtain ⟨hro, hrl, hrn⟩ := LP.room_ok h.ok hf hxi
      obtain ⟨hre, n, hn, hnl, hfr⟩ := LP.room_eq hf
      rw [hre] at hR
      obtain ⟨⟨r0, r1⟩, -⟩ := cells2' hR
      obtain ⟨⟨x0, x1, x2, x3⟩, -⟩ := cells4' hX
      obtain ⟨va, vc, sa, sc, es, mb, c, hb, -⟩ := h1.cells
      have c3 := (cells8 hb).1.2.2.2.1
      clear hb
      have hlw1 : w.heap.size ≤ w1.heap.size := hB.size
      have hbd : Rng (P.rebase x.i).bi := by rw [← hre]; exact hro.b0
      -- what stays where the ledger alone turns
      have HST : Hid (∀ W P', JTh L w1 W b P' → W.heap[w.heap.size]? = some (.cells #[.int .i64 x.t, .int .i64 x.i, .int .i64 x.k, x.x] 88 (0, 0)) ∧ W.heap[R]? = some (.cells #[.int .i64 (P.rebase x.i).bi, .int .i64 x.i] 222 (0, 0))) := fun W P' hJ =>
        ⟨(hJ.out.block _ (Array.getElem?_eq_some_iff.1 hX).1 (fun hl => by have := h.inn _ hl; omega)).trans hX, (hJ.out.block _ (Array.getElem?_eq_some_iff.1 hR).1 (fun hl => by have := h.inn _ hl; omega)).trans hR⟩
      clear HH hX hR
      go_upto_region 4 with fail
      go_cut [26] (fun v wx => v = .bool (!decide (P.bi < x.i)) ∧ ∃ q, wx = w1.drewN q)
      case first =>
        have hne : ((P.rebase x.i).bi != P.bi) = !decide (P.bi < x.i) := by
          unfold LP.rebase
          by_cases hb : P.bi < x.i
          · rw [if_pos hb]; simp [hb]
          · rw [if_neg hb]
            have : (P.anew (x.i - 1) 0).bi ≠ P.bi := by show x.i - 1 ≠ P.bi; omega
            simp [hb, this]
        clear HST h h1 hx hxL hfew hck hro hrl hrn hn hnl hfr hre HQ HBI
        generalize (P.rebase x.i).bi = b2 at *
        generalize P.bi = pb at *
        go_quiet (fail)
        go_wp2_with fail
        go_meet
        exact ⟨rfl, _, rfl⟩
      case rest =>
        obtain ⟨hv, q, hw⟩ := hcut
        subst hv
        have h1q : Lj L wc b P := by rw [hw]; exact h1.below (below_drewN (Below.refl _ _) _)
        have HJq : Hid (P.bi < x.i → JTh L w1 wc b (P.rebase x.i)) := fun hb => by
          unfold LP.rebase
          rw [if_pos hb, hw]
          exact h1.th (below_drewN (Below.refl _ _) _)
        have HAn : Hid (¬ P.bi < x.i → Calls Tryz.prog 160 #[.pointer (some ⟨b, 0, none⟩), .int .i64 (P.rebase x.i).bi, .int .i64 0] wc fun e w2 => e = .returned (.tuple #[]) ∧ JTh L w1 w2 b (P.rebase x.i)) := fun hb => by
          have := anew_any h1q (P.rebase x.i).bi 0 hbd ⟨by omega, by omega⟩
          refine this.mono ?_
          rintro e w2 ⟨he, hJ⟩
          refine ⟨he, ?_⟩
          have e1 : P.anew (P.rebase x.i).bi 0 = P.rebase x.i := by unfold LP.rebase; rw [if_neg hb]; rfl
          rw [e1, hw] at hJ
          exact ⟨by have := hJ.q; exact this, (Out.drew (X := L) w1 q).trans hJ.out (fun i hi _ => hi), fun i c z hi => hJ.byt i c z hi⟩
        have hrr : wc.cell? ⟨R, 0, none⟩ = some (.int .i64 (P.rebase x.i).bi) := by rw [hw]; exact r0
        have HRB : Hid ((P.rebase x.i).bi = (P.rebase x.i).bi) := rfl
        clear hw
        go_upto_if 26 with fail
        go_cut [] (fun wx => JTh L w1 wx b (P.rebase x.i))
        case first =>
          by_cases hb : P.bi < x.i
          · have hd : decide (P.bi < x.i) = true := by simpa using hb
            have HJ := HJq.out hb
            clear hb
            rw [hd]
            go_wp2
            go_meet
            exact HJ
          · have hd : decide (P.bi < x.i) = false := by simpa using hb
            have HA := HAn.out hb
            clear hb HAn HJq
            rw [hd]
            generalize (P.rebase x.i).bi = b2 at *
            go_wp2_with (go_at_call 160; refine HA.mono ?_; rintro e w2 ⟨rfl, HJ⟩)
            go_meet
            exact HJ
        case rest =>
          have HJ2 : Hid (JTh L w1 wc b (P.rebase x.i)) := hcut
          clear hcut HAn HJq h1q hrr c3 r0 r1 x0 x1 x2 x3
          obtain ⟨hX2, hR2⟩ := HST.out wc _ HJ2.out
          obtain ⟨⟨r0, r1⟩, -⟩ := cells2' hR2
          obtain ⟨⟨x0, x1, x2, x3⟩, -⟩ := cells4' hX2
          have CK : Hid (Calls Tryz.prog 205 #[.pointer (some ⟨b, 0, none⟩), .int .i64 (n : Int)] wc fun e w3 => e = .returned (.tuple #[]) ∧ JTh L w1 w3 b (P.room x.i)) := (keep_any HJ2.out.q n hnl).mono fun e w3 ⟨he, hJ⟩ => ⟨he, by rw [hfr] at hJ; exact HJ2.out.trans hJ⟩
          unfold Rng at hbd
          have hw1 : IntKind.i64.wrap (x.i - (P.rebase x.i).bi) = x.i - (P.rebase x.i).bi := by rw [IntKind.wrap_i64]; omega
          have hw2 : IntKind.i64.wrap (x.i - (P.rebase x.i).bi - 1) = (n : Int) := by rw [IntKind.wrap_i64]; omega
          have hf1 := hfew
          have HREST : Hid (Ow 0 w x.x x.d ∧ (∀ g, x.x.ownBlock = some g → L g) ∧ eCk x.says = 0 ∧ sg ≤ 99999999 ∧ (P.room x.i).E.length < 1000000000 ∧ (P.room x.i).Ok ∧ (P.room x.i).li + 1 = x.i ∧ Below w.heap.size w w1) := ⟨hx, hxL, hck, hsg, by omega, hro, hrl, HB1.out⟩
          have HQT : Hid (∀ W, JTh L w1 W b (P.enter x.says sg) → Q (.returned (.bool true)) W) := fun W hJ => by
            rw [← HQ.out]
            refine .inr ⟨hf, rfl, ?_, ?_, ?_⟩
            · refine hJ.q.wide (fun i hi => hi.imp id (fun h2 => ⟨by omega, h2.2⟩)) (fun i hi => hi.elim (fun h2 => hJ.q.inn i (.inl h2)) (fun h2 => h2.2))
            · exact (Out.of_below (X := L) HB1.out).trans hJ.out (fun i hi _ => hi)
            · exact fun i c z hi => hJ.byt i c z (bel_heap HB1.out hi)
          have HPE : Hid (P.enter x.says sg = (P.room x.i).snoc x.says sg) := rfl
          generalize hrm : P.room x.i = PR at *
          generalize P.enter x.says sg = PF at *
          generalize (P.rebase x.i).bi = b2 at *
          clear HRB HBI HQ hrl hro hrn hre hn hnl hfr h h1 hx hxL hck hf HB1 hxi hf1 hfew hsg hbd hX2 hR2 HJ2 hB
          go_upto_region 7 with (go_at_call 205; refine CK.out.mono ?_; rintro e w3 ⟨rfl, HJ3⟩)
          obtain ⟨va, vc, sa, sc, es, mb, c, ho3, hl3⟩ := HJ3.q.op
          have HO3 : Hid (Jop (grew L w1 w3) w3 b PR (.slice va PR.E.length vc) (.slice sa PR.E.length sc) es mb c) := ho3
          obtain ⟨⟨-, -, -, -, -, c5, c6, -⟩, -⟩ := cells8 ho3.hb
          obtain ⟨hX3, -⟩ := HST.out w3 _ HJ3
          obtain ⟨⟨x0, x1, x2, x3⟩, -⟩ := cells4' hX3
          have hw3 : w1.heap.size ≤ w3.heap.size := HJ3.out.size
          have nbx : b ≠ w.heap.size := Nat.ne_of_lt hlw
          have lb3 : b < w3.heap.size := (Array.getElem?_eq_some_iff.1 ho3.hb).1
          have nb3 : b ≠ w3.heap.size := Nat.ne_of_lt lb3
          have lx3 : w.heap.size < w3.heap.size := (Array.getElem?_eq_some_iff.1 hX3).1
          have nx3 : w.heap.size ≠ w3.heap.size := Nat.ne_of_lt lx3
          have HXW : Hid (Ow 0 w3 x.x x.d) := HJ3.ow (HREST.out.1.below HREST.out.2.2.2.2.2.2.2 (Nat.le_refl _))
          have HJ3 : Hid (JTh L w1 w3 b PR) := HJ3
          have HROW : Hid (∀ W, Below w3.heap.size w3 W → W.ownsRow 0 88 4 (.slice va PR.E.length vc) es.length (entCells es)) := fun W hB => (ho3.ho.below hB).row
          have HSL : Hid (EntsAt (w3.heap.size + 1) (w3.alloc (.cells #[.int .i64 x.t, .int .i64 x.i, .int .i64 x.k, x.x] 88)).drew (some ⟨w3.heap.size, 0, none⟩) [x]) :=
            (ents_one w3 x w3.heap.size (Nat.le_refl _) (HXW.out.sl (Nat.le_refl _)) (Nat.le_refl _)).below (below_drewN (Below.refl _ _) 1)
          have HPU : Hid (∀ (W4 w5 : World) (v' : Value), Below w3.heap.size w3 W4 → w5.ownsRow 0 88 4 v' (es.length + 1) (entCells es ++ entCells [x]) → W4.grownBy w5 (Value.slice va PR.E.length vc).ownBlock → (v'.ownBlock = (Value.slice va PR.E.length vc).ownBlock ∨ v'.ownBlock = some W4.heap.size) → (w5.cell? ⟨b, 5, none⟩ = some (.slice va PR.E.length vc) ∧ w5.frozen? ⟨b, 5, none⟩ = false) ∧ Jmid w3 (w5.setCell ⟨b, 5, none⟩ v') b PR (.slice va PR.E.length vc) v' (.slice sa PR.E.length sc) (es ++ [x]) mb) := fun W4 w5 v' hB hr hg hv => push1 ho3 x HXW.out hB hr hg hv
          have HS6 : Hid (∀ w6 v', Jmid w3 w6 b PR (.slice va PR.E.length vc) v' (.slice sa PR.E.length sc) (es ++ [x]) mb → w6.cell? ⟨b, 6, none⟩ = some (.slice sa PR.E.length sc) ∧ Hid (Ro RI 0 w6 (.slice sa PR.E.length sc) PR.S) ∧ Hid (∀ (W8 w9 : World) (s' : Value), Below w6.heap.size w6 W8 → Ro RI 0 w9 s' (PR.S ++ [sg]) → W8.grownBy w9 (Value.slice sa PR.E.length sc).ownBlock → (s'.ownBlock = (Value.slice sa PR.E.length sc).ownBlock ∨ s'.ownBlock = some W8.heap.size) → (w9.cell? ⟨b, 6, none⟩ = some (.slice sa PR.E.length sc) ∧ w9.frozen? ⟨b, 6, none⟩ = false) ∧ Q (.returned (.bool true)) (w9.setCell ⟨b, 6, none⟩ s'))) := fun w6 v' m => by
            refine ⟨(cells8 m.hb).1.2.2.2.2.2.2.1, m.hr, fun W8 w9 s' hB hr hg hv => ?_⟩
            obtain ⟨r1, r2, r3, r4, r5, r6, r7, r8⟩ := HREST.out
            obtain ⟨q1, q2⟩ := push2 HJ3.out.q ho3 x (fun g hg => .inl (r2 g hg)) sg (r6.snoc r7 r3 r4 r5) m hB hr hg hv
            exact ⟨q1, HQT.out _ (by rw [HPE.out]; exact HJ3.out.trans q2)⟩
          have hlen1 : es.length + [x].length ≤ 1000000000 := by have := HREST.out.2.2.2.2.1; simp; omega
          have HLS : Hid (PR.S.length ≤ 1000000000) := by have := HREST.out.2.2.2.2.1; have := HREST.out.2.2.2.2.2.1.len; show _ ≤ _; omega
          clear ho3 hX3 HST HREST HJ3 HQT HPE HO3 hl3 CK HXW
          generalize x.x = xx at *
          generalize PR.E.length = m at *
          go_cut [] (fun wx => ∃ v', Jmid w3 wx b PR (.slice va m vc) v' (.slice sa m sc) (es ++ [x]) mb)
          case first =>
            clear HS6 HLS
            go_region_law (refine step_append_ents rfl (.tmp 44) (.tmp 46) rfl 0 (w3.heap.size + 1) (.slice va m vc) (some ⟨w3.heap.size, 0, none⟩) 1 es [x] (by simp [Act.eval]) (HROW.out _ ?hbr) (by simp [Act.eval]) HSL.out hlen1 (Nat.zero_le _) ?_; (case hbr => (repeat (first | (with_reducible refine bel_alloc' ?_ _) | (with_reducible refine bel_drew' ?_) | (with_reducible refine bel_drewN' ?_ _))); exact Below.refl _ _); intro v' w5 q1 q2 q3; obtain ⟨a5, n5, c5', rfl⟩ := row_slice q1; obtain ⟨⟨k5, kf5⟩, HM⟩ := HPU.out _ w5 _ (bel_drew' (bel_alloc' (Below.refl _ _) _)) q1 q2 q3; have HM : Hid _ := HM; clear q1 q2 q3)
            all_goals
              (try go_wp2)
              go_meet
              exact ⟨_, HM.out⟩
          case rest =>
            obtain ⟨v', HM⟩ := hcut
            obtain ⟨k6, HR6, HF6⟩ := HS6.out _ _ HM
            have lb6 : b < wc.heap.size := (Array.getElem?_eq_some_iff.1 HM.hb).1
            have nb6 : b ≠ wc.heap.size := Nat.ne_of_lt lb6
            clear HM HS6 HPU HROW HSL c5 c6 x0 x1 x2 x3 r0 r1
            go_wp2_with (at_builtin; refine wpList_append_ro RI rfl (.tmp 55) (.tmp 57) rfl 0 (.slice sa m sc) PR.S sg rfl HR6.out (B := wc.heap.size) rfl rfl HLS.out (Nat.zero_le _) ?_; intro s' w9 q1 q2 q3; obtain ⟨a9, c9, rfl, -⟩ := q1.shape; obtain ⟨⟨k9, kf9⟩, HQ9⟩ := HF6.out _ w9 _ (bel_alloc' (Below.refl _ _) _) q1 (by simpa [RI] using q2) (by rcases q3 with e | e; exact .inl e; exact .inr (by simpa using e)); have HQ9 : Hid _ := HQ9; clear q1 q2 q3)
            have HQ8 := HQ9.out
            simp only [List.length_append, List.length_cons, List.length_nil, Nat.zero_add] at HQ8
            exact HQ8
    · rw [wth_gap hf] at hwt
      cases hwt
      have HF : Hid (Q (.returned (.bool false)) w1) := by rw [← HQ.out]; exact .inl ⟨hf, rfl, hB⟩
      clear hX hR hB h h1 hx hxL hck hfew hf HH HQ HBI
      go_wp2
      exact HF.out
end Go.Proofs.YtnahghldlkjleaaGreatDoor
