/-
  A wal in memory: its block, its segments, its ledger, its disk. The last segment; its name; Sync of it.
-/
import Derived.Test.YtnahghldlkjleaaGreatDoorWk
import Derived.Test.YtnahghldlkjleaaGreatDoorWN
import Derived.Test.YtnahghldlkjleaaGreatDoorSx
namespace Go.Proofs.YtnahghldlkjleaaGreatDoor
open Go.RowKit
set_option linter.unusedVariables false

/-- A wal, plainly: the disk, how full a segment may be, the segments, the ledger; whether it is broken. -/
structure WS where
  p : PD
  full : Nat
  sg : List Sg
  J : LP
  br : Bool
def sg0 : Sg := ⟨0, 0⟩
def WS.last (X : WS) : Sg := X.sg.getLastD sg0

structure WlO (A S L : Nat → Prop) (w : World) (wb d b : Nat) (sv : Value) (k : DS) (X : WS) : Prop where
  hw : w.heap[wb]? = some (.cells #[.pointer (some ⟨d, 0, none⟩), .int .i64 (X.full : Int), sv, .pointer (some ⟨b, 0, none⟩), .bool X.br] 114 (0, 0))
  hs : Ro RSg 0 w sv X.sg
  hj : Lj L w b X.J
  hd : DkC S w d k
  hp : k.pd = X.p
  sl : ∀ i, S i → ¬ L i
  nS : ¬ S wb
  nL : ¬ L wb
  sv : ∀ g, sv.ownBlock = some g → A g ∧ ¬ S g ∧ ¬ L g
  SA : ∀ i, S i → A i
  LA : ∀ i, L i → A i
  Aw : A wb
  inn : ∀ i, A i → i < w.heap.size
  vr : ∀ V, Out A w V → Vars V
/-- Block wb holds a wal over the disk in d; all its blocks lie in A. -/
def Wl (A : Nat → Prop) (w : World) (wb d : Nat) (X : WS) : Prop := ∃ S L b sv k, WlO A S L w wb d b sv k X
/-- Behind a call the wal is X; nothing else has turned. -/
structure Wth (A : Nat → Prop) (w w' : World) (wb d : Nat) (X : WS) : Prop where
  q : Wl (grew A w w') w' wb d X
  out : Out A w w'

theorem cells5w {w : World} {b : Nat} {t : TypeId} {v0 v1 v2 v3 v4 : Value} (h : w.heap[b]? = some (.cells #[v0, v1, v2, v3, v4] t (0, 0))) :
    (w.cell? ⟨b, 0, none⟩ = some v0 ∧ w.cell? ⟨b, 1, none⟩ = some v1 ∧ w.cell? ⟨b, 2, none⟩ = some v2 ∧ w.cell? ⟨b, 3, none⟩ = some v3 ∧ w.cell? ⟨b, 4, none⟩ = some v4) ∧ ∀ o, w.frozen? ⟨b, o, none⟩ = false := by
  refine ⟨⟨?_, ?_, ?_, ?_, ?_⟩, ?_⟩
  all_goals (first | (simp only [World.cell?, h]; rfl) | skip)
  intro o
  simp [World.frozen?, h]
/-- Blocks that grew. -/
theorem grew_inn {A : Nat → Prop} {w w' : World} (h : ∀ i, A i → i < w.heap.size) (hs : w.heap.size ≤ w'.heap.size) : ∀ i, grew A w w' i → i < w'.heap.size := fun i hi => hi.elim (fun h2 => Nat.lt_of_lt_of_le (h i h2) hs) (fun h2 => h2.2)
theorem vr_step {A : Nat → Prop} {w w' : World} (hv : ∀ V, Out A w V → Vars V) (hO : Out A w w') : ∀ V, Out (grew A w w') w' V → Vars V := fun V hV => hv V (hO.step hV)

/-- The disk has turned. -/
theorem WlO.diskO {A S L : Nat → Prop} {w w' : World} {wb d b : Nat} {sv : Value} {k k' : DS} {X : WS} (h : WlO A S L w wb d b sv k X) (hA : At S w w' d k') : WlO (grew A w w') (grew S w w') L w' wb d b sv k' { X with p := k'.pd } ∧ Out A w w' := by
  have hO : Out A w w' := hA.out.mono h.SA
  refine ⟨?_, hO⟩
  have wlt := (Array.getElem?_eq_some_iff.1 h.hw).1
  refine ⟨(hA.out.block wb wlt h.nS).trans h.hw, h.hs.out hA.out (fun g hg => (h.sv g hg).2.1), h.hj.out hA.out (fun i hi hS => h.sl i hS hi), hA.dk, rfl, ?_, ?_, h.nL, ?_, ?_, fun i hi => .inl (h.LA i hi), .inl h.Aw, grew_inn h.inn hO.size, vr_step h.vr hO⟩
  · rintro i (hi | hi) hL
    · exact h.sl i hi hL
    · have := h.hj.inn i hL; omega
  · rintro (hi | hi)
    · exact h.nS hi
    · omega
  · intro g hg
    obtain ⟨s1, s2, s3⟩ := h.sv g hg
    refine ⟨.inl s1, ?_, s3⟩
    rintro (hi | hi)
    · exact s2 hi
    · have := h.inn g s1; omega
  · exact fun i hi => hi.imp (h.SA i) id
theorem WlO.disk {A S L : Nat → Prop} {w w' : World} {wb d b : Nat} {sv : Value} {k k' : DS} {X : WS} (h : WlO A S L w wb d b sv k X) (hA : At S w w' d k') : Wth A w w' wb d { X with p := k'.pd } :=
  ⟨⟨_, _, _, _, _, (h.diskO hA).1⟩, (h.diskO hA).2⟩
/-- Nothing of the wal's has turned. -/
theorem WlO.out {A S L X' : Nat → Prop} {w w' : World} {wb d b : Nat} {sv : Value} {k : DS} {X : WS} (h : WlO A S L w wb d b sv k X) (hO : Out X' w w') (hx : ∀ i, A i → ¬ X' i) (hv : ∀ V, Out A w' V → Vars V) : WlO A S L w' wb d b sv k X :=
  ⟨(hO.block wb (h.inn _ h.Aw) (hx _ h.Aw)).trans h.hw, h.hs.out hO (fun g hg => hx _ (h.sv g hg).1), h.hj.out hO (fun i hi => hx _ (h.LA i hi)), h.hd.out hO (fun i hi => hx _ (h.SA i hi)), h.hp, h.sl, h.nS, h.nL, h.sv, h.SA, h.LA, h.Aw, fun i hi => Nat.lt_of_lt_of_le (h.inn i hi) hO.size, hv⟩
theorem WlO.below {A S L : Nat → Prop} {w w' : World} {wb d b : Nat} {sv : Value} {k : DS} {X : WS} (h : WlO A S L w wb d b sv k X) (hB : Below w.heap.size w w') : WlO A S L w' wb d b sv k X :=
  h.out (X' := fun _ => False) (Out.of_below hB) (fun _ _ hf => hf) (fun V hV => h.vr V ((Out.of_below (X := A) hB).trans hV (fun i hi _ => hi)))
theorem WlO.wide {A A' S L : Nat → Prop} {w : World} {wb d b : Nat} {sv : Value} {k : DS} {X : WS} (h : WlO A S L w wb d b sv k X) (hA : ∀ i, A i → A' i) (hi : ∀ i, A' i → i < w.heap.size) (hv : ∀ V, Out A' w V → Vars V) : WlO A' S L w wb d b sv k X :=
  ⟨h.hw, h.hs, h.hj, h.hd, h.hp, h.sl, h.nS, h.nL, fun g hg => ⟨hA _ (h.sv g hg).1, (h.sv g hg).2⟩, fun i hi => hA _ (h.SA i hi), fun i hi => hA _ (h.LA i hi), hA _ h.Aw, hi, hv⟩
theorem WlO.th {A S L : Nat → Prop} {w w' : World} {wb d b : Nat} {sv : Value} {k : DS} {X : WS} (h : WlO A S L w wb d b sv k X) (hB : Below w.heap.size w w') : Wth A w w' wb d X :=
  ⟨⟨S, L, b, sv, k, (h.below hB).wide (fun i hi => .inl hi) (grew_inn h.inn hB.size) (vr_step h.vr (Out.of_below hB))⟩, Out.of_below hB⟩
theorem Wl.below {A : Nat → Prop} {w w' : World} {wb d : Nat} {X : WS} (h : Wl A w wb d X) (hB : Below w.heap.size w w') : Wl A w' wb d X := by
  obtain ⟨S, L, b, sv, k, h⟩ := h
  exact ⟨S, L, b, sv, k, h.below hB⟩
theorem Wl.inn {A : Nat → Prop} {w : World} {wb d : Nat} {X : WS} (h : Wl A w wb d X) : ∀ i, A i → i < w.heap.size := by
  obtain ⟨S, L, b, sv, k, h⟩ := h
  exact h.inn
theorem Wl.vr {A : Nat → Prop} {w : World} {wb d : Nat} {X : WS} (h : Wl A w wb d X) : ∀ V, Out A w V → Vars V := by
  obtain ⟨S, L, b, sv, k, h⟩ := h
  exact h.vr
theorem Wl.vars {A : Nat → Prop} {w : World} {wb d : Nat} {X : WS} (h : Wl A w wb d X) : Vars w := h.vr w (Out.refl _ _)
theorem Wl.th {A : Nat → Prop} {w w' : World} {wb d : Nat} {X : WS} (h : Wl A w wb d X) (hB : Below w.heap.size w w') : Wth A w w' wb d X := by
  obtain ⟨S, L, b, sv, k, h⟩ := h
  exact h.th hB
theorem Wth.trans {A : Nat → Prop} {w w1 w2 : World} {wb d : Nat} {X X2 : WS} (h : Wth A w w1 wb d X) (k : Wth (grew A w w1) w1 w2 wb d X2) : Wth A w w2 wb d X2 :=
  ⟨by rw [← grew_grew h.out.size k.out.size]; exact k.q, h.out.step k.out⟩
theorem Wth.of_below {A : Nat → Prop} {w w1 w2 : World} {wb d : Nat} {X X2 : WS} (h : Wl A w wb d X) (hB : Below w.heap.size w w1) (k : Wth A w1 w2 wb d X2) : Wth A w w2 wb d X2 := by
  have hO : Out A w w2 := (Out.of_below (X := A) hB).trans k.out (fun i hi _ => hi)
  obtain ⟨S, L, b, sv, kk, q⟩ := k.q
  have hg : ∀ i, grew A w1 w2 i → grew A w w2 i := fun i hi => hi.imp id (fun h2 => ⟨Nat.le_trans hB.size h2.1, h2.2⟩)
  exact ⟨⟨S, L, b, sv, kk, q.wide hg (grew_inn h.inn hO.size) (vr_step h.vr hO)⟩, hO⟩
/-- The ledger has turned; some more blocks may be its. -/
theorem WlO.ledger {A S L D : Nat → Prop} {w w' : World} {wb d b : Nat} {sv : Value} {k : DS} {X : WS} (h : WlO A S L w wb d b sv k X) (hD : ∀ i, D i → ¬ A i) (hDi : ∀ i, D i → i < w.heap.size) (hv : ∀ V, Out (fun i => A i ∨ D i) w V → Vars V) {J' : LP} (hJ : JTh (fun i => L i ∨ D i) w w' b J') : Wth (fun i => A i ∨ D i) w w' wb d { X with J := J' } := by
  have hO : Out (fun i => A i ∨ D i) w w' := hJ.out.mono (fun i hi => hi.imp (h.LA i) id)
  have nD : ∀ i, A i → ¬ D i := fun i hA hd => hD i hd hA
  refine ⟨⟨S, grew (fun i => L i ∨ D i) w w', b, sv, k, ?_⟩, hO⟩
  refine ⟨(hJ.out.block wb (h.inn _ h.Aw) (fun hi => hi.elim h.nL (nD _ h.Aw))).trans h.hw, h.hs.out hJ.out (fun g hg hi => hi.elim (h.sv g hg).2.2 (nD _ (h.sv g hg).1)), hJ.q, h.hd.out hJ.out (fun i hi hx => hx.elim (h.sl i hi) (nD _ (h.SA i hi))), h.hp, ?_, h.nS, ?_, ?_, fun i hi => .inl (.inl (h.SA i hi)), fun i hi => hi.imp (fun h2 => h2.imp (h.LA i) id) id, .inl (.inl h.Aw), grew_inn (fun i hi => hi.elim (h.inn i) (hDi i)) hO.size, vr_step hv hO⟩
  · rintro i hS ((hi | hi) | hi)
    · exact h.sl i hS hi
    · exact nD _ (h.SA i hS) hi
    · have := h.inn i (h.SA i hS); omega
  · rintro ((hi | hi) | hi)
    · exact h.nL hi
    · exact nD _ h.Aw hi
    · have := h.inn _ h.Aw; omega
  · intro g hg
    obtain ⟨s1, s2, s3⟩ := h.sv g hg
    refine ⟨.inl (.inl s1), s2, ?_⟩
    rintro ((hi | hi) | hi)
    · exact s3 hi
    · exact nD _ s1 hi
    · have := h.inn g s1; omega
/-- The wal's own block and its segments have turned. -/
theorem WlO.segs {A S L : Nat → Prop} {w w' : World} {wb d b : Nat} {sv : Value} {k : DS} {X : WS} (h : WlO A S L w wb d b sv k X) (hO : Out (fun i => i = wb ∨ sv.ownBlock = some i) w w') {sv' : Value} {sg' : List Sg} {br' : Bool}
    (hw : w'.heap[wb]? = some (.cells #[.pointer (some ⟨d, 0, none⟩), .int .i64 (X.full : Int), sv', .pointer (some ⟨b, 0, none⟩), .bool br'] 114 (0, 0))) (hr : Ro RSg 0 w' sv' sg') (ho : ∀ g, sv'.ownBlock = some g → sv.ownBlock = some g ∨ w.heap.size ≤ g) : Wth A w w' wb d { X with sg := sg', br := br' } := by
  have hO' : Out A w w' := hO.mono (fun i hi => by rcases hi with rfl | hi; exact h.Aw; exact (h.sv i hi).1)
  have nL : ∀ i, L i → ¬ (i = wb ∨ sv.ownBlock = some i) := by
    rintro i hi (rfl | h2)
    · exact h.nL hi
    · exact (h.sv i h2).2.2 hi
  have nS : ∀ i, S i → ¬ (i = wb ∨ sv.ownBlock = some i) := by
    rintro i hi (rfl | h2)
    · exact h.nS hi
    · exact (h.sv i h2).2.1 hi
  refine ⟨⟨S, L, b, sv', k, hw, hr, h.hj.out hO nL, h.hd.out hO nS, h.hp, h.sl, h.nS, h.nL, ?_, fun i hi => .inl (h.SA i hi), fun i hi => .inl (h.LA i hi), .inl h.Aw, grew_inn h.inn hO'.size, vr_step h.vr hO'⟩, hO'⟩
  intro g hg
  rcases ho g hg with h2 | h2
  · obtain ⟨s1, s2, s3⟩ := h.sv g h2
    exact ⟨.inl s1, s2, s3⟩
  · exact ⟨.inr ⟨h2, (hr.lt hg).2⟩, fun hS => by have := h.inn g (h.SA g hS); omega, fun hL => by have := h.inn g (h.LA g hL); omega⟩
theorem WlO.not_wb {A S L : Nat → Prop} {w : World} {wb d b : Nat} {sv : Value} {k : DS} {X : WS} (h : WlO A S L w wb d b sv k X) : sv.ownBlock ≠ some wb := h.hs.not_at h.hw (fun c z e => by cases e)
end Go.Proofs.YtnahghldlkjleaaGreatDoor
namespace Go.Proofs.YtnahghldlkjleaaGreatDoor
open Go.RowKit
set_option linter.unusedVariables false

theorem last_at {l : List Sg} {n : Nat} (h : l.length = n + 1) : l.getLastD sg0 = l[n]'(by omega) := by
  rw [List.getLastD_eq_getLast?, List.getLast?_eq_getElem?]
  have e : l.length - 1 = n := by omega
  simp only [e]
  rw [List.getElem?_eq_getElem (by omega)]
  rfl
/-- The last segment's cells. -/
theorem WlO.at_last {A S L : Nat → Prop} {w : World} {wb d b : Nat} {sv : Value} {k : DS} {X : WS} (h : WlO A S L w wb d b sv k X) {n : Nat} (hn : X.sg.length = n + 1) :
    ∃ g cap, sv = .slice (some ⟨g, 0, none⟩) (n + 1) cap ∧ g < w.heap.size ∧ A g ∧ (∃ cur, w.heap[g]? = some (.cells cur 135 (0, 0))) ∧ w.cell? ⟨g, n * 2, none⟩ = some (.int .i64 (X.last.n : Int)) ∧ w.cell? ⟨g, n * 2 + 1, none⟩ = some (.int .i64 (X.last.b : Int)) := by
  obtain ⟨g, cap, rfl, -, hg, hcur, hc⟩ := h.hs.at0 (by omega)
  have h0 := hc n 0 (by omega) (by decide)
  have h1 := hc n 1 (by omega) (by decide)
  have e : X.last = X.sg[n]'(by omega) := last_at hn
  rw [← e] at h0 h1
  exact ⟨g, cap, by rw [hn], hg, (h.sv g rfl).1, hcur, h0, h1⟩

set_option maxRecDepth 100000 in
theorem lastSeg_any (w : World) (wb g n cap : Nat) (h : w.cell? ⟨wb, 2, none⟩ = some (.slice (some ⟨g, 0, none⟩) (n + 1) cap)) (hn : n < 1000000000) :
    Calls Tryz.prog 94 #[.pointer (some ⟨wb, 0, none⟩)] w fun e w' => e = .returned (.pointer (some ⟨g, n * 2, none⟩)) ∧ ∃ q, w' = w.drewN q := by
  have hw : IntKind.i64.wrap (((n + 1 : Nat) : Int) - 1) = (n : Int) := by rw [IntKind.wrap_i64]; omega
  go_enter Tryz.func94, Tryz.ntmps94
  go_wp2_with fail
  go_quiet (fail)
  go_wp2
  go_ret
  exact ⟨by simp, _, rfl⟩

set_option maxRecDepth 100000 in
theorem segName_any (n b : Nat) (hn : n ≤ 99999999) (w : World) (hv : Vars w) : Calls Tryz.prog 78 #[.agg #[.int .i64 (n : Int), .int .i64 (b : Int)]] w fun e w' => e = .returned (.string ⟨(nmL n).toArray⟩) ∧ Below w.heap.size w w' := by
  have hB : Below w.heap.size w (w.alloc (.cells #[.int .i64 (n : Int), .int .i64 (b : Int)] 135)) := (Below.refl _ w).alloc (Nat.le_refl _) _
  have hno := nameOf_any n hn (w.alloc (.cells #[.int .i64 (n : Int), .int .i64 (b : Int)] 135)) (hv.below hB)
  go_enter Tryz.func78, Tryz.ntmps78
  go_wp2_with (go_at_call 71; refine hno.mono ?_; rintro e w1 ⟨rfl, hB1⟩)
  go_ret
  exact ⟨rfl, hB.trans (hB1.mono hB.size)⟩

set_option maxRecDepth 100000 in
set_option maxHeartbeats 4000000 in
theorem syncO_any {A S L : Nat → Prop} {w : World} {wb d b : Nat} {sv : Value} {k : DS} {X : WS} (h : WlO A S L w wb d b sv k X) (hn : X.sg ≠ []) (hfew : X.sg.length ≤ 1000000000) (hl : X.last.n ≤ 99999999) (p' : PD) (hx : doSync X.p (nmL X.last.n) = (0, p')) :
    Calls Tryz.prog 49 #[.pointer (some ⟨wb, 0, none⟩)] w fun e w' => e = .returned (.tuple #[]) ∧ Wth A w w' wb d { X with p := p' } ∧ Out S w w' := by
  obtain ⟨n, hn⟩ : ∃ n, X.sg.length = n + 1 := ⟨X.sg.length - 1, by have := List.length_pos_iff.2 hn; omega⟩
  obtain ⟨g, cap, hsv, hg, hAg, -, s0, s1⟩ := h.at_last hn
  have hw := h.hw
  rw [hsv] at hw
  obtain ⟨⟨c0, c1, c2, c3, c4⟩, -⟩ := cells5w hw
  have wlt := (Array.getElem?_eq_some_iff.1 hw).1
  have HC : Hid (∀ V, Below w.heap.size w V → V.cell? ⟨wb, 0, none⟩ = some (.pointer (some ⟨d, 0, none⟩)) ∧ V.cell? ⟨g, n * 2, none⟩ = some (.int .i64 (X.last.n : Int)) ∧ V.cell? ⟨g, n * 2 + 1, none⟩ = some (.int .i64 (X.last.b : Int))) := fun V hB =>
    ⟨(hB.cell (p := ⟨wb, 0, none⟩) wlt).trans c0, (hB.cell (p := ⟨g, n * 2, none⟩) hg).trans s0, (hB.cell (p := ⟨g, n * 2 + 1, none⟩) hg).trans s1⟩
  have HLS : Hid (∀ W, Below w.heap.size w W → Calls Tryz.prog 94 #[.pointer (some ⟨wb, 0, none⟩)] W fun e w' => e = .returned (.pointer (some ⟨g, n * 2, none⟩)) ∧ Below w.heap.size w w') := fun W hB =>
    (lastSeg_any W wb g n cap ((hB.cell (p := ⟨wb, 2, none⟩) wlt).trans c2) (by omega)).mono fun e w' ⟨he, q, hq⟩ => ⟨he, by rw [hq]; exact below_drewN hB q⟩
  have HNM : Hid (∀ W, Below w.heap.size w W → Calls Tryz.prog 78 #[.agg #[.int .i64 (X.last.n : Int), .int .i64 (X.last.b : Int)]] W fun e w' => e = .returned (.string ⟨(nmL X.last.n).toArray⟩) ∧ Below w.heap.size w w') := fun W hB =>
    (segName_any X.last.n X.last.b hl W ((h.below hB).vr W (Out.refl _ _))).mono fun e w' ⟨he, h2⟩ => ⟨he, hB.trans (h2.mono hB.size)⟩
  have HSY : Hid (∀ W, Below w.heap.size w W → Calls Tryz.prog 93 #[.pointer (some ⟨d, 0, none⟩), .string ⟨(nmL X.last.n).toArray⟩] W fun e w' => e = .returned (.int .i64 0) ∧ Wth A w w' wb d { X with p := p' } ∧ Out S w w') := fun W hB => by
    have h1 := h.below hB
    refine (sync_any h1.hd (nmL X.last.n) (by rw [nmL_len]; unfold maxLen; omega)).mono ?_
    rintro e w' ⟨k', rfl, hA, hp⟩
    rw [h1.hp, hx] at hp
    rw [h1.hp, hx]
    have hT := h1.disk hA
    rw [hp] at hT
    exact ⟨rfl, Wth.of_below ⟨S, L, b, sv, k, h⟩ hB hT, (Out.of_below (X := S) hB).trans hA.out (fun i hi _ => hi)⟩
  have HM : Hid (∀ W, Calls Tryz.prog 92 #[.int .i64 0] W fun e w' => e = .returned (.tuple #[]) ∧ w' = W) := fun W => must_ok W
  have k0 := c0
  clear h hn hfew hl hx hsv hw wlt c1 c2 c3 c4 s0 s1 hAg c0
  generalize nmL X.last.n = nm at *
  generalize X.last.n = ln at *
  generalize X.last.b = lb at *
  go_enter Tryz.func49, Tryz.ntmps49
  go_wp2_with fail
  go_region_law (first
    | (go_simp; go_at_call 94; refine (HLS.out _ ?hb).mono ?_; (case hb => (repeat (first | (with_reducible refine bel_alloc' ?_ _) | (with_reducible refine bel_drew' ?_) | (with_reducible refine bel_drewN' ?_ _))); first | exact Below.refl _ _ | assumption); rintro e w1 ⟨rfl, hB1⟩; obtain ⟨d0, d1, d2⟩ := HC.out w1 hB1)
    | (go_simp; go_at_call 78; refine (HNM.out _ ?hb).mono ?_; (case hb => (repeat (first | (with_reducible refine bel_alloc' ?_ _) | (with_reducible refine bel_drew' ?_) | (with_reducible refine bel_drewN' ?_ _))); first | exact Below.refl _ _ | assumption); rintro e w2 ⟨rfl, hB2⟩; obtain ⟨e0, -, -⟩ := HC.out w2 hB2)
    | (go_simp; go_at_call 93; refine (HSY.out _ ?hb).mono ?_; (case hb => (repeat (first | (with_reducible refine bel_alloc' ?_ _) | (with_reducible refine bel_drew' ?_) | (with_reducible refine bel_drewN' ?_ _))); first | exact Below.refl _ _ | assumption); rintro e w3 ⟨rfl, hT⟩; have HT : Hid _ := hT; clear hT)
    | (go_simp; go_at_call 92; refine (HM.out _).mono ?_; rintro e w4 ⟨rfl, rfl⟩))
  all_goals
    (try go_wp2)
    (try go_end0)
    exact ⟨rfl, HT.out⟩
theorem syncW_any {A : Nat → Prop} {w : World} {wb d : Nat} {X : WS} (h : Wl A w wb d X) (hn : X.sg ≠ []) (hfew : X.sg.length ≤ 1000000000) (hl : X.last.n ≤ 99999999) (p' : PD) (hx : doSync X.p (nmL X.last.n) = (0, p')) :
    Calls Tryz.prog 49 #[.pointer (some ⟨wb, 0, none⟩)] w fun e w' => e = .returned (.tuple #[]) ∧ Wth A w w' wb d { X with p := p' } := by
  obtain ⟨S, L, b, sv, k, h⟩ := h
  exact (syncO_any h hn hfew hl p' hx).mono fun e w' ⟨h1, h2, _⟩ => ⟨h1, h2⟩
end Go.Proofs.YtnahghldlkjleaaGreatDoor
