/-
  A log: as plain numbers and entries; as it lies in memory; what reads it.
-/
import Derived.Test.YteekpfgjpdopmaaEnt
import Derived.Deep.RegionHeld3
import Derived.Handy
import Derived.Outline
namespace Go.Proofs.Yteekpfgjpdopmaa
open Go.RowKit
set_option linter.unusedVariables false

/-- A log: base, entries, marks (handed, stable, committed, applying, applied). -/
structure PL where
  bi : Int
  bt : Int
  E : List En
  h : Int
  s : Int
  c : Int
  g : Int
  a : Int

/-- The last index. -/
def PL.li (P : PL) : Int := P.bi + (P.E.length : Int)
/-- The term of an index that is there. -/
def PL.tm (P : PL) (i : Int) : Int := if i = P.bi then P.bt else eT (P.E.getD (i - P.bi - 1).toNat nilEn)
/-- The last term. -/
def PL.lt (P : PL) : Int := P.tm P.li
/-- Term's error. -/
def PL.er (P : PL) (i : Int) : Nat := if i < P.bi then 14 else if P.li < i then 8 else 0
/-- Term's answer. -/
def PL.tt (P : PL) (i : Int) : Int := if P.er i = 0 then P.tm i else 0
/-- Has. -/
def PL.has (P : PL) (i t : Int) : Bool := (P.er i == 0) && (P.tm i == t)
def PL.newer (P : PL) (i t : Int) : Bool := decide (P.lt < t) || ((t == P.lt) && decide (P.li ≤ i))

/-- What holds of every log. -/
structure PL.Ok (P : PL) : Prop where
  base : (P.bi = 0 ∧ P.bt = 0) ∨ (1 ≤ P.bi ∧ P.bi ≤ 4611686018427387904 ∧ 1 ≤ P.bt ∧ P.bt ≤ 4611686018427387904)
  ck : ∀ e ∈ P.E, eCk e = 0
  ix : ∀ k, k < P.E.length → eI (P.E.getD k nilEn) = P.bi + 1 + (k : Int)
  up : ∀ k, k < P.E.length → P.tm (P.bi + (k : Int)) ≤ P.tm (P.bi + (k : Int) + 1)
  len : P.E.length ≤ 10000
  ba : P.bi ≤ P.a
  ag : P.a ≤ P.g
  gc : P.g ≤ P.c
  cl : P.c ≤ P.li
  gs : P.g ≤ P.s
  sh : P.s ≤ P.h
  hl : P.h ≤ P.li

theorem PL.Ok.b0 {P : PL} (h : P.Ok) : 0 ≤ P.bi ∧ P.bi ≤ 4611686018427387904 ∧ 0 ≤ P.bt ∧ P.bt ≤ 4611686018427387904 := by
  rcases h.base with h | h <;> omega
theorem getD_mem {E : List En} {k : Nat} (h : k < E.length) : E.getD k nilEn ∈ E := by
  rw [List.getD_eq_getElem?_getD, List.getElem?_eq_getElem h]; exact List.getElem_mem h
theorem PL.Ok.ent {P : PL} (h : P.Ok) {k : Nat} (hk : k < P.E.length) : 1 ≤ eT (P.E.getD k nilEn) ∧ eT (P.E.getD k nilEn) ≤ 4611686018427387904 ∧ P.bi + 1 + (k : Int) ≤ 4611686018427387904 := by
  have := eCk_ok (h.ck _ (getD_mem hk))
  have h2 := h.ix k hk
  omega
theorem PL.Ok.lim {P : PL} (h : P.Ok) : 0 ≤ P.li ∧ P.li ≤ 4611686018427387904 := by
  have h0 := h.b0
  unfold PL.li
  by_cases hz : P.E.length = 0
  · omega
  · have := h.ent (k := P.E.length - 1) (by omega)
    omega
theorem PL.tm_ent (P : PL) {k : Nat} : P.tm (P.bi + 1 + (k : Int)) = eT (P.E.getD k nilEn) := by
  unfold PL.tm
  rw [if_neg (by omega)]
  congr 2
  omega
theorem PL.tm_base (P : PL) : P.tm P.bi = P.bt := by unfold PL.tm; rw [if_pos rfl]

/-- Block b holds a log; its blocks lie in S, from N on. -/
structure Lg (N : Nat) (S : Nat → Prop) (w : World) (b : Nat) (P : PL) : Prop where
  at_ : ∃ v es, w.heap[b]? = some (.cells #[.int .i64 P.bi, .int .i64 P.bt, v, .int .i64 P.h, .int .i64 P.s, .int .i64 P.c, .int .i64 P.g, .int .i64 P.a] 79 (0, 0)) ∧ EntsOw 0 w v es ∧ es.map Ent.says = P.E ∧ (∀ g, v.ownBlock = some g → S g) ∧ (∀ e ∈ es, ∀ g, e.x.ownBlock = some g → S g)
  ok : P.Ok
  Sb : S b
  inn : ∀ i, S i → i < w.heap.size
  fr : ∀ i, S i → N ≤ i

/-- Behind a call the log is P; nothing else has turned. -/
structure LTh (N : Nat) (S : Nat → Prop) (w w' : World) (b : Nat) (P : PL) : Prop where
  q : Lg N (grew S w w') w' b P
  out : Out S w w'

theorem Lg.out {N : Nat} {S X : Nat → Prop} {w w' : World} {b : Nat} {P : PL} (h : Lg N S w b P) (hO : Out X w w') (hx : ∀ i, S i → ¬ X i) : Lg N S w' b P := by
  obtain ⟨v, es, hv, ho, hs, h1, h2⟩ := h.at_
  exact ⟨⟨v, es, (hO.block b (h.inn _ h.Sb) (hx _ h.Sb)).trans hv, ho.out hO (fun g hg => hx _ (h1 g hg)) (fun e he g hg => hx _ (h2 e he g hg)), hs, h1, h2⟩, h.ok, h.Sb, fun i hi => Nat.lt_of_lt_of_le (h.inn i hi) hO.size, h.fr⟩
theorem Lg.below {N : Nat} {S : Nat → Prop} {w w' : World} {b : Nat} {P : PL} (h : Lg N S w b P) (hB : Below w.heap.size w w') : Lg N S w' b P :=
  h.out (X := fun _ => False) (Out.of_below hB) (fun _ _ hf => hf)
theorem LTh.bel {N : Nat} {S : Nat → Prop} {w w' : World} {b : Nat} {P : PL} (h : LTh N S w w' b P) (hN : N ≤ w.heap.size) : Below N w w' :=
  h.out.below hN (fun i hi => h.q.fr i (.inl hi))
theorem grew_grew {X : Nat → Prop} {w a b : World} (h1 : w.heap.size ≤ a.heap.size) (h2 : a.heap.size ≤ b.heap.size) : grew (grew X w a) a b = grew X w b := by
  funext i
  apply propext
  unfold grew
  constructor
  · rintro ((h | h) | h)
    · exact .inl h
    · exact .inr ⟨h.1, by omega⟩
    · exact .inr ⟨by omega, h.2⟩
  · rintro (h | h)
    · exact .inl (.inl h)
    · by_cases hi : i < a.heap.size
      · exact .inl (.inr ⟨h.1, hi⟩)
      · exact .inr ⟨by omega, h.2⟩
theorem LTh.trans {N : Nat} {S : Nat → Prop} {w wr w2 : World} {b : Nat} {P P2 : PL} (h : LTh N S w wr b P) (k : LTh N (grew S w wr) wr w2 b P2) : LTh N S w w2 b P2 :=
  ⟨by rw [← grew_grew h.out.size k.out.size]; exact k.q, h.out.step k.out⟩
/-- What only reads leaves the log. -/
theorem Lg.th {N : Nat} {S : Nat → Prop} {w w' : World} {b : Nat} {P : PL} (h : Lg N S w b P) (hN : N ≤ w.heap.size) (hB : Below w.heap.size w w') : LTh N S w w' b P := by
  have h' := h.below hB
  obtain ⟨v, es, hv, ho, hs, h1, h2⟩ := h'.at_
  exact ⟨⟨⟨v, es, hv, ho, hs, fun g hg => .inl (h1 g hg), fun e he g hg => .inl (h2 e he g hg)⟩, h.ok, .inl h.Sb, fun i hi => hi.elim (fun h => h'.inn i h) (fun h => h.2), fun i hi => hi.elim (fun h => h'.fr i h) (fun h => by omega)⟩, Out.of_below hB⟩

theorem cells8 {w : World} {b : Nat} {t : TypeId} {v0 v1 v2 v3 v4 v5 v6 v7 : Value} (h : w.heap[b]? = some (.cells #[v0, v1, v2, v3, v4, v5, v6, v7] t (0, 0))) :
    (w.cell? ⟨b, 0, none⟩ = some v0 ∧ w.cell? ⟨b, 1, none⟩ = some v1 ∧ w.cell? ⟨b, 2, none⟩ = some v2 ∧ w.cell? ⟨b, 3, none⟩ = some v3 ∧ w.cell? ⟨b, 4, none⟩ = some v4 ∧ w.cell? ⟨b, 5, none⟩ = some v5 ∧ w.cell? ⟨b, 6, none⟩ = some v6 ∧ w.cell? ⟨b, 7, none⟩ = some v7) ∧ ∀ o, w.frozen? ⟨b, o, none⟩ = false := by
  refine ⟨⟨?_, ?_, ?_, ?_, ?_, ?_, ?_, ?_⟩, ?_⟩
  all_goals (first | (simp only [World.cell?, h]; rfl) | skip)
  intro o
  simp [World.frozen?, h]

/-- A log, opened. -/
theorem Lg.cells {N : Nat} {S : Nat → Prop} {w : World} {b : Nat} {P : PL} (h : Lg N S w b P) :
    ∃ va vc es, w.heap[b]? = some (.cells #[.int .i64 P.bi, .int .i64 P.bt, .slice va P.E.length vc, .int .i64 P.h, .int .i64 P.s, .int .i64 P.c, .int .i64 P.g, .int .i64 P.a] 79 (0, 0)) ∧ EntsOw 0 w (.slice va P.E.length vc) es ∧ es.map Ent.says = P.E ∧ es.length = P.E.length ∧ P.E.length ≤ vc ∧ vc ≤ maxLen ∧ (∀ g, (Value.slice va P.E.length vc).ownBlock = some g → S g) ∧ (∀ e ∈ es, ∀ g, e.x.ownBlock = some g → S g) := by
  obtain ⟨v, es, hv, ho, hs, h1, h2⟩ := h.at_
  obtain ⟨va, vc, rfl, h3, h4⟩ := ho.shape
  have hl : es.length = P.E.length := by rw [← hs]; simp
  rw [hl] at hv ho h1 h3
  exact ⟨va, vc, es, hv, ho, hs, hl, h3, h4, h1, h2⟩

theorem ent_says {es : List Ent} {E : List En} (hs : es.map Ent.says = E) (k : Nat) : (es.getD k nilEnt).t = eT (E.getD k nilEn) ∧ (es.getD k nilEnt).i = eI (E.getD k nilEn) ∧ (es.getD k nilEnt).k = eK (E.getD k nilEn) ∧ (es.getD k nilEnt).d = eD (E.getD k nilEn) := by
  rw [← hs, says_getD]
  exact ⟨rfl, rfl, rfl, rfl⟩

set_option maxRecDepth 100000 in
set_option maxHeartbeats 1000000 in
/-- last. -/
theorem last_any {N : Nat} {S : Nat → Prop} {w : World} {b : Nat} {P : PL} (h : Lg N S w b P) :
    Calls Try.prog 69 #[.pointer (some ⟨b, 0, none⟩)] w fun e w' => e = .returned (.agg #[.int .i64 P.li, .int .i64 P.lt]) ∧ Below w.heap.size w w' := by
  obtain ⟨va, vc, es, hb, ho, hs, hl, hvc, hvm, -, -⟩ := h.cells
  obtain ⟨⟨c0, c1, c2, -, -, -, -, -⟩, -⟩ := cells8 hb
  have hbw := h.inn _ h.Sb
  have HB : Hid (∀ cs, Below w.heap.size w (w.alloc (.cells cs 76))) := fun _ => (Below.refl _ w).alloc (Nat.le_refl _) _
  by_cases hz : P.E.length = 0
  · have HL : Hid (P.li = P.bi ∧ P.lt = P.bt) := by
      have : P.li = P.bi := by unfold PL.li; omega
      exact ⟨this, by unfold PL.lt; rw [this, PL.tm_base]⟩
    rw [HL.out.1, HL.out.2]
    rw [hz] at c2
    clear h hb ho hs hl hvc hvm
    go_enter Try.func69, Try.ntmps69
    go_wp2
    go_returns
    exact ⟨rfl, HB.out _⟩
  · obtain ⟨n, hn⟩ : ∃ n, P.E.length = n + 1 := ⟨P.E.length - 1, by omega⟩
    have hat := EntsOw.at (es := es) (by rw [hl]; exact ho)
    obtain ⟨g, off, rfl, hg, e0, e1, -⟩ := hat.at (i := n) (by omega)
    obtain ⟨s1, s2, -⟩ := ent_says hs n
    rw [s1] at e0
    rw [s2, h.ok.ix n (by omega)] at e1
    have HL : Hid (P.li = P.bi + 1 + (n : Int) ∧ P.lt = eT (P.E.getD n nilEn)) := by
      have : P.li = P.bi + 1 + (n : Int) := by unfold PL.li; omega
      exact ⟨this, by unfold PL.lt; rw [this, PL.tm_ent]⟩
    rw [HL.out.1, HL.out.2]
    have hlen := h.ok.len
    have hw : IntKind.i64.wrap ((P.E.length : Int) - 1) = (n : Int) := by rw [IntKind.wrap_i64]; omega
    have i0 : (0 : Int) ≤ (n : Int) := by omega
    have i1 : (n : Int) < (P.E.length : Int) := by omega
    have hp : (0 : Int) < (P.E.length : Int) := by omega
    generalize eT (P.E.getD n nilEn) = tn at *
    clear h hb ho hs hl hvm s1 s2 hat hn hz hlen
    generalize P.E.length = m at *
    go_enter Try.func69, Try.ntmps69
    go_wp2
    go_region_held3 (fun w' => w'.cell? ⟨b, 2, none⟩ = some (.slice (some ⟨g, off, none⟩) m vc) ∧ w'.cell? ⟨g, off + n * 4, none⟩ = some (.int .i64 tn) ∧ w'.cell? ⟨g, off + n * 4 + 1, none⟩ = some (.int .i64 (P.bi + 1 + (n : Int)))) (go_keep) (fail)
    go_wp2
    go_returns
    refine ⟨rfl, ?_⟩
    exact (HB.out _).drew


theorem place_index (x y : Value) (w : World) : (Instr.field 76 (.agg #[x, y]) 0).run Try.prog w = .ok x w := by kernel_rfl
theorem place_term (x y : Value) (w : World) : (Instr.field 76 (.agg #[x, y]) 1).run Try.prog w = .ok y w := by kernel_rfl

theorem er_le {P : PL} (i : Int) : P.er i = 0 ∨ P.er i = 8 ∨ P.er i = 14 := by
  unfold PL.er
  split
  · simp
  · split <;> simp

set_option maxRecDepth 100000 in
set_option maxHeartbeats 1000000 in
/-- Last. -/
theorem Last_any {N : Nat} {S : Nat → Prop} {w : World} {b : Nat} {P : PL} (h : Lg N S w b P) :
    Calls Try.prog 24 #[.pointer (some ⟨b, 0, none⟩)] w fun e w' => e = .returned (.tuple #[.int .i64 P.li, .int .i64 P.lt]) ∧ Below w.heap.size w w' := by
  have HL : Hid (Calls _ _ _ _ _) := last_any h
  clear h
  go_enter Try.func24, Try.ntmps24
  go_wp2_with fail
  refine HL.out.mono ?_
  rintro e w1 ⟨rfl, hB1⟩
  have HB1 : Hid (Below w.heap.size w (w1.alloc (.cells #[.int .i64 P.li, .int .i64 P.lt] 76))) := hB1.alloc hB1.size _
  clear hB1 HL
  go_wp2
  go_quiet (fail)
  go_wp2
  go_returns
  exact ⟨rfl, below_drewN HB1.out _⟩

set_option maxRecDepth 100000 in
set_option maxHeartbeats 1000000 in
/-- Newer. -/
theorem Newer_any {N : Nat} {S : Nat → Prop} {w : World} {b : Nat} {P : PL} (h : Lg N S w b P) (i t : Int) :
    Calls Try.prog 61 #[.pointer (some ⟨b, 0, none⟩), .int .i64 i, .int .i64 t] w fun e w' => e = .returned (.bool (P.newer i t)) ∧ Below w.heap.size w w' := by
  have HL : Hid (Calls _ _ _ _ _) := last_any h
  clear h
  unfold PL.newer
  generalize P.li = li at *
  generalize P.lt = lt at *
  have HB : Hid (∀ w1, Below w.heap.size w w1 → Below w.heap.size w (w1.alloc (.cells #[.int .i64 li, .int .i64 lt] 76))) := fun w1 hB1 => hB1.alloc hB1.size _
  by_cases h1 : lt < t
  · have h1' : decide (lt < t) = true := by simpa using h1
    go_enter Try.func61, Try.ntmps61
    go_wp2_with (go_at_call 69; refine HL.out.mono ?_; rintro e w1 ⟨rfl, hB1⟩)
    go_ret
    exact ⟨by simp [h1], HB.out _ hB1⟩
  · have h1' : decide (lt < t) = false := by simpa using h1
    by_cases h2 : t = lt
    · subst h2
      go_enter Try.func61, Try.ntmps61
      go_wp2_with (go_at_call 69; refine HL.out.mono ?_; rintro e w1 ⟨rfl, hB1⟩)
      go_ret
      exact ⟨by simp, HB.out _ hB1⟩
    · have h2' : (t == lt) = false := by simpa using h2
      go_enter Try.func61, Try.ntmps61
      go_wp2_with (go_at_call 69; refine HL.out.mono ?_; rintro e w1 ⟨rfl, hB1⟩)
      go_ret
      exact ⟨by simp [h1, h2], HB.out _ hB1⟩

set_option maxRecDepth 100000 in
set_option maxHeartbeats 1000000 in
/-- Marks. -/
theorem Marks_any {N : Nat} {S : Nat → Prop} {w : World} {b : Nat} {P : PL} (h : Lg N S w b P) :
    Calls Try.prog 25 #[.pointer (some ⟨b, 0, none⟩)] w fun e w' => e = .returned (.agg #[.int .i64 P.h, .int .i64 P.s, .int .i64 P.c, .int .i64 P.g, .int .i64 P.a]) ∧ Below w.heap.size w w' := by
  obtain ⟨va, vc, es, hb, -⟩ := h.cells
  obtain ⟨⟨-, -, -, c3, c4, c5, c6, c7⟩, -⟩ := cells8 hb
  have hbw := h.inn _ h.Sb
  have HB : Hid (∀ cs, Below w.heap.size w (w.alloc (.cells cs 55))) := fun _ => (Below.refl _ w).alloc (Nat.le_refl _) _
  clear h hb
  go_enter Try.func25, Try.ntmps25
  go_wp2
  go_returns
  exact ⟨rfl, HB.out _⟩

set_option maxRecDepth 100000 in
set_option maxHeartbeats 1000000 in
/-- Term. -/
theorem Term_any {N : Nat} {S : Nat → Prop} {w : World} {b : Nat} {P : PL} (h : Lg N S w b P) (i : Int) :
    Calls Try.prog 56 #[.pointer (some ⟨b, 0, none⟩), .int .i64 i] w fun e w' => e = .returned (.tuple #[.int .i64 (P.tt i), .int .i64 (P.er i : Int)]) ∧ Below w.heap.size w w' := by
  obtain ⟨va, vc, es, hb, ho, hs, hl, hvc, hvm, -, -⟩ := h.cells
  obtain ⟨⟨c0, c1, c2, -, -, -, -, -⟩, -⟩ := cells8 hb
  have hbw := h.inn _ h.Sb
  have HL : Hid (Calls _ _ _ _ _) := last_any h
  have h0 := h.ok.b0
  have hlim := h.ok.lim
  by_cases h1 : i < P.bi
  · have e1 : P.er i = 14 := by unfold PL.er; rw [if_pos h1]
    have e2 : P.tt i = 0 := by unfold PL.tt; rw [e1]; rfl
    rw [e1, e2]
    clear h hb ho hs hl hvc hvm e1 e2 HL
    go_enter Try.func56, Try.ntmps56
    go_wp2
    go_returns
    exact ⟨rfl, Below.refl _ _⟩
  · by_cases h2 : i = P.bi
    · have e1 : P.er i = 0 := by unfold PL.er PL.li; rw [if_neg h1, if_neg (by omega)]
      have e2 : P.tt i = P.bt := by unfold PL.tt; rw [e1, h2, PL.tm_base]; rfl
      rw [e1, e2]
      subst h2
      clear h hb ho hs hl hvc hvm e1 e2 HL
      go_enter Try.func56, Try.ntmps56
      go_wp2
      go_returns
      exact ⟨rfl, Below.refl _ _⟩
    · have h2' : (i == P.bi) = false := by simpa using h2
      by_cases h3 : P.li < i
      · have e1 : P.er i = 8 := by unfold PL.er; rw [if_neg h1, if_pos h3]
        have e2 : P.tt i = 0 := by unfold PL.tt; rw [e1]; rfl
        rw [e1, e2]
        clear h hb ho hs hl hvc hvm e1 e2 h2
        have hfi := place_index
        go_enter Try.func56, Try.ntmps56
        go_wp2_with (go_at_call 69; refine HL.out.mono ?_; rintro e w1 ⟨rfl, hB1⟩)
        go_returns
        exact ⟨rfl, hB1⟩
      · have e1 : P.er i = 0 := by unfold PL.er; rw [if_neg h1, if_neg h3]
        obtain ⟨n, hn⟩ : ∃ n : Nat, i = P.bi + 1 + (n : Int) := ⟨(i - P.bi - 1).toNat, by omega⟩
        have hnl : n < P.E.length := by unfold PL.li at h3; omega
        have e2 : P.tt i = eT (P.E.getD n nilEn) := by unfold PL.tt; rw [e1, hn, PL.tm_ent]; rfl
        rw [e1, e2]
        have hat := EntsOw.at (es := es) (by rw [hl]; exact ho)
        obtain ⟨g, off, rfl, hg, e0, -⟩ := hat.at (i := n) (by omega)
        obtain ⟨s1, -⟩ := ent_says hs n
        rw [s1] at e0
        have HC : Hid (∀ w1, Below w.heap.size w w1 → (w1.cell? ⟨b, 0, none⟩ = some (.int .i64 P.bi) ∧ w1.cell? ⟨b, 2, none⟩ = some (.slice (some ⟨g, off, none⟩) P.E.length vc) ∧ w1.cell? ⟨g, off + n * 4, none⟩ = some (.int .i64 (eT (P.E.getD n nilEn))))) := fun w1 hB =>
          ⟨(hB.cell (p := ⟨b, 0, none⟩) hbw).trans c0, (hB.cell (p := ⟨b, 2, none⟩) hbw).trans c2, (hB.cell (p := ⟨g, off + n * 4, none⟩) hg).trans e0⟩
        have hw1 : (i - P.bi - 1).toNat = n := by omega
        have i0 : (0 : Int) ≤ i - P.bi - 1 := by omega
        have i1 : i - P.bi - 1 < (P.E.length : Int) := by omega
        have HI : Hid (i = P.bi + 1 + (n : Int)) := hn
        clear e0 hn e1 e2 h2 s1 hat ho hs hl hb h
        generalize eT (P.E.getD n nilEn) = tn at *
        generalize P.E.length = m at *
        have hfi := place_index
        go_enter Try.func56, Try.ntmps56
        go_wp2_with (go_at_call 69; refine HL.out.mono ?_; rintro e w1 ⟨rfl, hB1⟩; obtain ⟨k0, k2, ke⟩ := HC.out w1 hB1)
        go_quiet (fail)
        go_wp2
        go_returns
        exact ⟨rfl, below_drewN hB1 _⟩

set_option maxRecDepth 100000 in
set_option maxHeartbeats 1000000 in
/-- Has. -/
theorem Has_any {N : Nat} {S : Nat → Prop} {w : World} {b : Nat} {P : PL} (h : Lg N S w b P) (i t : Int) :
    Calls Try.prog 59 #[.pointer (some ⟨b, 0, none⟩), .int .i64 i, .int .i64 t] w fun e w' => e = .returned (.bool (P.has i t)) ∧ Below w.heap.size w w' := by
  have HT : Hid (Calls _ _ _ _ _) := Term_any h i
  by_cases h1 : P.er i = 0
  · have HE : Hid (P.has i t = (P.tt i == t)) := by show _ = _; unfold PL.has PL.tt; rw [h1]; simp
    rw [HE.out]
    rw [h1] at HT
    clear h
    generalize P.tt i = ti at *
    go_enter Try.func59, Try.ntmps59
    go_wp2_with (go_at_call 56; refine HT.out.mono ?_; rintro e w1 ⟨rfl, hB1⟩)
    go_ret
    exact ⟨rfl, hB1⟩
  · have HE : Hid (P.has i t = false) := by show _ = _; unfold PL.has; simp [h1]
    rw [HE.out]
    have h1' : ((P.er i : Int) == 0) = false := by simp; omega
    clear h
    go_enter Try.func59, Try.ntmps59
    go_wp2_with (go_at_call 56; refine HT.out.mono ?_; rintro e w1 ⟨rfl, hB1⟩)
    go_ret
    exact ⟨rfl, hB1⟩

end Go.Proofs.Yteekpfgjpdopmaa
