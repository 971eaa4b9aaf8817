/-
  The document's progress: free, Beat, Sent, Acked.
-/
import Derived.Test.YtdgaimiggejleaaRp
namespace Go.Proofs.Ytdgaimiggejleaa
open Go.RowKit
set_option linter.unusedVariables false

/-- How long the window is, by the memory. -/
def lenAt (w : World) (c : Nat) : Nat := match w.cell? ⟨c, 4, none⟩ with | some (.slice _ n _) => n | _ => 0
theorem RP.lenAt {N : Nat} {S : Nat → Prop} {w : World} {c : Nat} {p : PP} (h : RP N S w c p) : lenAt w c = p.W.length := by
  obtain ⟨a, k, ⟨⟨-, -, -, -, c4, -, -⟩, -⟩, -⟩ := h.cells
  simp [Go.Proofs.Ytdgaimiggejleaa.lenAt, c4]

/-- The window without its first one. -/
theorem RP.tail {N : Nat} {S : Nat → Prop} {w : World} {c : Nat} {p : PP} {y : Int} {t : List Int} (h : RP N S w c p) (hN : N ≤ w.heap.size) (hW : p.W = y :: t) :
    ∃ g off k, w.cell? ⟨c, 4, none⟩ = some (.slice (some ⟨g, off, none⟩) (t.length + 1) k) ∧ w.cell? ⟨g, off, none⟩ = some (.int .i64 y) ∧ t.length + 1 ≤ k ∧ k ≤ maxLen ∧ g ≠ c ∧
      (k = 1 → RTh N S w (w.setCell ⟨c, 4, none⟩ (.slice (some ⟨g, off, none⟩) t.length 0)) c { p with W := t }) ∧ (k ≠ 1 → RTh N S w (w.setCell ⟨c, 4, none⟩ (.slice (some ⟨g, off + 1, none⟩) t.length (k - 1))) c { p with W := t }) := by
  obtain ⟨a, k, ⟨⟨-, -, -, -, c4, -, -⟩, -⟩, hb, hq, hs⟩ := h.cells
  have hl : p.W.length = t.length + 1 := by rw [hW]; simp
  rw [hl] at c4 hb hq hs
  have hcut := hq.cut 1 (by omega)
  have hd : p.W.drop 1 = t := by rw [hW]; rfl
  rw [hd] at hcut
  have hsl := hq.sl (Nat.le_refl _)
  obtain ⟨a', k', e, h1, h2, h3⟩ := hsl
  simp only [Value.slice.injEq] at e
  obtain ⟨rfl, -, rfl⟩ := e
  obtain ⟨g, off, rfl, -, hcell⟩ := h3.resolve_left (by rw [hW]; simp)
  have c0 : w.cell? ⟨g, off, none⟩ = some (.int .i64 y) := by
    have h9 := hcell 0 (by omega)
    rw [Nat.add_zero, hW] at h9
    exact h9
  have hgc : g ≠ c := fun e => hq.not_at hb (by decide) (by simp [Value.ownBlock, e])
  have hO : ∀ v, Out (fun i => i = c) w (w.setCell ⟨c, 4, none⟩ v) := fun v => Out.set rfl
  have hmk : ∀ v : Value, v = cutV (some ⟨g, off, none⟩) (t.length + 1) k 1 → RTh N S w (w.setCell ⟨c, 4, none⟩ v) c { p with W := t } := fun v hv => by
    subst hv
    refine h.turn hN ((hO _).mono (by rintro i rfl; exact h.Sc)) (by simpa [rrow] using heap_set hb 4 _) (hcut.1.out (hO _) (fun g' hg' e => ?_)) (fun g' hg' => .inl (hs g' (hcut.2 g' hg')))
    have := hcut.2 g' hg'
    simp [Value.ownBlock] at this
    exact hgc (this.trans e)
  refine ⟨g, off, k, c4, c0, by omega, h2, hgc, fun e => hmk _ ?_, fun e => hmk _ ?_⟩
  · subst e; simp [cutV]
  · simp [cutV, e]

set_option maxRecDepth 100000 in
set_option maxHeartbeats 4000000 in
theorem rFree_any {N : Nat} {S : Nat → Prop} {w : World} {c : Nat} {p : PP} (h : RP N S w c p) (hN : N ≤ w.heap.size) (x : Int) (hlm : p.W.length ≤ 1000) :
    Calls Try.prog 48 #[.pointer (some ⟨c, 0, none⟩), .int .i64 x] w fun e w' => e = .returned (.tuple #[]) ∧ RTh N S w w' c { p with W := freeL p.W x } := by
  have HS : Hid (RTh N S w w c { p with W := p.W }) := h.to (Out.refl _ _) hN
  have HN : Hid (N ≤ w.heap.size) := hN
  clear h hN
  go_enter Try.func48, Try.ntmps48
  go_wp2
  go_loopw [9] (fun pv wr => ∃ t : List Int, t.length ≤ 1000 ∧ freeL p.W x = freeL t x ∧ RTh N S w wr c { p with W := t }) (fun _ wr => lenAt wr c)
  case atStart => exact ⟨p.W, hlm, rfl, HS.out⟩
  case round =>
    obtain ⟨t, htl, hf, ht⟩ := hrel
    have HT : Hid (RTh N S w wr c { p with W := t }) := ht
    have HF : Hid (freeL p.W x = freeL t x) := hf
    have HLA : Hid (lenAt wr c = t.length) := ht.q.lenAt
    have HN2 : Hid (N ≤ wr.heap.size) := Nat.le_trans HN.out ht.out.size
    clear ht hf HS
    cases t with
    | nil =>
      obtain ⟨a, k, ⟨⟨-, -, -, -, c4, -, -⟩, -⟩, -⟩ := HT.out.q.cells
      simp only [List.length_nil] at c4
      go_wp2
      go_returns
      exact ⟨rfl, by rw [HF.out]; exact HT.out⟩
    | cons y t =>
      obtain ⟨g, off, k, c4, cy, hk1, hk2, hgc, hA, hB⟩ := HT.out.q.tail HN2.out (y := y) (t := t) rfl
      have cf : wr.frozen? ⟨c, 4, none⟩ = false := by
        obtain ⟨a, k, ⟨-, cf⟩, -⟩ := HT.out.q.cells
        exact cf 4
      have HA : Hid (k = 1 → RTh N (grew S w wr) wr (wr.setCell ⟨c, 4, none⟩ (.slice (some ⟨g, off, none⟩) t.length 0)) c { p with W := t }) := hA
      have HB : Hid (k ≠ 1 → RTh N (grew S w wr) wr (wr.setCell ⟨c, 4, none⟩ (.slice (some ⟨g, off + 1, none⟩) t.length (k - 1))) c { p with W := t }) := hB
      have hl0 : 0 < t.length + 1 := by omega
      have hl1 : (0 : Int) < (t.length : Int) + 1 := by omega
      have hgc' : ¬ c = g := fun e => hgc e.symm
      clear hA hB
      by_cases hyx : y ≤ x
      · have HX : Hid (freeL (y :: t) x = freeL t x) := by show _ = _; simp [freeL, hyx]
        have HEND : Hid (∀ w5, RTh N (grew S w wr) wr w5 c { p with W := t } → (∃ t : List Int, t.length ≤ 1000 ∧ freeL p.W x = freeL t x ∧ RTh N S w w5 c { p with W := t }) ∧ lenAt w5 c < lenAt wr c) := fun w5 h5 => ⟨⟨t, by simp at htl; omega, by rw [HF.out, HX.out], HT.out.step h5 HN.out⟩, by rw [HLA.out, h5.q.lenAt]; simp⟩
        by_cases hk : k = 1
        · subst hk
          have ht0 : t.length = 0 := by omega
          have HAA := HA.out rfl
          rw [ht0] at c4 HAA hl0 hl1
          have HAA' : Hid _ := HAA
          clear HAA HA HB ht0
          go_wp2
          exact (HEND.out _ HAA'.out)
        · have HBB : Hid _ := HB.out hk
          have hk3 : ¬ k = 1 := hk
          generalize t.length = L at *
          go_wp2
          exact (HEND.out _ HBB.out)
      · have HX : Hid (freeL (y :: t) x = y :: t) := by show _ = _; simp [freeL, hyx]
        generalize t.length = L at *
        go_wp2
        go_returns
        exact ⟨rfl, by rw [HF.out, HX.out]; exact HT.out⟩

/-- The window while a progress lives. -/
structure Iv (p : PP) : Prop where
  no : p.st ≠ 1 → p.W = []
  up : p.W.Pairwise (fun x y => x < y)
theorem Iv.let1 {p : PP} {y : Int} {t : List Int} (h : Iv p) (hW : p.W = y :: t) : freeL p.W (p.W.headD 0) = t := by
  rw [hW]
  have hp := h.up
  rw [hW] at hp
  obtain ⟨h1, -⟩ := List.pairwise_cons.1 hp
  cases t with
  | nil => simp [freeL]
  | cons z t =>
    have := h1 z (by simp)
    simp [freeL, this]

set_option maxRecDepth 100000 in
set_option maxHeartbeats 4000000 in
theorem rBeat_any {N : Nat} {S : Nat → Prop} {w : World} {c : Nat} {p : PP} (h : RP N S w c p) (hN : N ≤ w.heap.size) (ho : p.Ok) (hi : Iv p) :
    Calls Try.prog 33 #[.pointer (some ⟨c, 0, none⟩)] w fun e w' => e = .returned (.tuple #[]) ∧ RTh N S w w' c p.beat := by
  obtain ⟨a, k, ⟨⟨c0, c1, c2, c3, c4, c5, c6⟩, cf⟩, hb, hq, hs⟩ := h.cells
  have hst : p.st = 0 ∨ p.st = 1 ∨ p.st = 2 := by have := ho.s0; have := ho.s2; omega
  have hw2 : IntKind.i64.wrap (p.m + 1) = p.m + 1 := by rw [IntKind.wrap_i64]; have := ho.m0; have := ho.mn; have := ho.n1; omega
  have h1 : RTh N S w (w.setCell ⟨c, 3, none⟩ (.bool false)) c { p with pa := false } := h.set (p' := { p with pa := false }) hN hb hq hs (Out.set rfl) (by simpa [rrow] using heap_set hb 3 (.bool false)) rfl
  have HD : Hid (∀ n, RTh N S w ((w.setCell ⟨c, 3, none⟩ (.bool false)).drewN n) c { p with pa := false }) := fun n => ⟨h1.q.drew n, h1.out.trans (Out.drew (X := S) _ n) (fun i hi _ => hi)⟩
  rcases hst with e | e | e
  · have hp : p.beat = { p with pa := false } := by simp [PP.beat, e]
    rw [hp]
    rw [e] at c2
    clear h hb hq hs ho hi h1 hp
    generalize p.W.length = L at *
    go_enter Try.func33, Try.ntmps33
    go_wp2
    go_quiet (fail)
    go_wp2
    go_returns
    exact ⟨rfl, HD.out _⟩
  · have hp : p.beat = ({ p with pa := false } : PP).let1 := by simp [PP.beat, e]
    rw [hp]
    rw [e] at c2
    by_cases hl : p.W.length = p.rm
    · obtain ⟨y, t, hyt⟩ : ∃ y t, p.W = y :: t := by
        cases hW : p.W with
        | nil => rw [hW] at hl; have := ho.rm; simp at hl; omega
        | cons y t => exact ⟨y, t, rfl⟩
      have hlet : ({ p with pa := false } : PP).let1 = { p with pa := false, W := t } := by
        rw [PP.let1, if_pos hl]
        show ({ p with pa := false, W := freeL p.W (p.W.headD 0) } : PP) = _
        rw [hi.let1 hyt]
      rw [hlet]
      obtain ⟨g, off, k', d4, dy, hk1, hk2, hgc, hA, hB⟩ := h1.q.tail (Nat.le_trans hN h1.out.size) (y := y) (t := t) hyt
      have e4 : k' = k ∧ a = some ⟨g, off, none⟩ := by
        have hh := heap_set hb 3 (.bool false)
        have : (w.setCell ⟨c, 3, none⟩ (.bool false)).cell? ⟨c, 4, none⟩ = some (.slice a p.W.length k) := by simp [World.cell?, hh, rrow]
        rw [this] at d4
        simp only [Option.some.injEq, Value.slice.injEq] at d4
        exact ⟨d4.2.2.symm, d4.1⟩
      obtain ⟨rfl, rfl⟩ := e4
      have HA : Hid (k' = 1 → ∀ n, RTh N S w (((w.setCell ⟨c, 3, none⟩ (.bool false)).setCell ⟨c, 4, none⟩ (.slice (some ⟨g, off, none⟩) t.length 0)).drewN n) c { p with pa := false, W := t }) := fun e n => by
        have h5 := h1.step (hA e) hN
        exact ⟨h5.q.drew n, h5.out.trans (Out.drew (X := S) _ n) (fun i hi _ => hi)⟩
      have HB : Hid (k' ≠ 1 → ∀ n, RTh N S w (((w.setCell ⟨c, 3, none⟩ (.bool false)).setCell ⟨c, 4, none⟩ (.slice (some ⟨g, off + 1, none⟩) t.length (k' - 1))).drewN n) c { p with pa := false, W := t }) := fun e n => by
        have h5 := h1.step (hB e) hN
        exact ⟨h5.q.drew n, h5.out.trans (Out.drew (X := S) _ n) (fun i hi _ => hi)⟩
      have hlen : p.W.length = t.length + 1 := by rw [hyt]; simp
      have hrm : (p.rm : Int) = (t.length : Int) + 1 := by omega
      rw [hlen] at c4
      rw [hrm] at c5
      have hee : ((t.length : Int) + 1 == (t.length : Int) + 1) = true := by simp
      clear h hb hq hs ho hi h1 hp hlet hA hB d4 dy HD hl hlen hrm
      by_cases hk : k' = 1
      · subst hk
        have ht0 : t.length = 0 := by omega
        have HAA := HA.out rfl
        rw [ht0] at c4 c5 HAA hee
        have HAA' : Hid (∀ n, _) := HAA
        clear HAA HA HB ht0 hk1 hyt
        go_enter Try.func33, Try.ntmps33
        go_wp2
        go_quiet (fail)
        go_wp2
        go_returns
        exact ⟨rfl, HAA'.out _⟩
      · have HBB : Hid (∀ n, _) := HB.out hk
        clear HA HB hyt
        generalize t.length = L at *
        go_enter Try.func33, Try.ntmps33
        go_wp2
        go_quiet (fail)
        go_wp2
        go_returns
        exact ⟨rfl, HBB.out _⟩
    · have hlet : ({ p with pa := false } : PP).let1 = { p with pa := false } := by rw [PP.let1, if_neg hl]
      rw [hlet]
      have hee : ((p.W.length : Int) == (p.rm : Int)) = false := by simp; omega
      clear h hb hq hs ho hi h1 hp hlet
      generalize p.W.length = L at *
      go_enter Try.func33, Try.ntmps33
      go_wp2
      go_quiet (fail)
      go_wp2
      go_returns
      exact ⟨rfl, HD.out _⟩
  · have hW := hi.no (by omega)
    have HE : Hid (∀ n, RTh N S w ((((w.setCell ⟨c, 3, none⟩ (.bool false)).setCell ⟨c, 2, none⟩ (.int .i64 0)).setCell ⟨c, 1, none⟩ (.int .i64 (p.m + 1))).drewN n) c p.beat) := fun n => by
      have hp : p.beat = ({ p with pa := false } : PP).re 0 := by simp [PP.beat, e]
      rw [hp]
      have h5 : RTh N S w (((w.setCell ⟨c, 3, none⟩ (.bool false)).setCell ⟨c, 2, none⟩ (.int .i64 0)).setCell ⟨c, 1, none⟩ (.int .i64 (p.m + 1))) c (({ p with pa := false } : PP).re 0) :=
        h.set (p' := ({ p with pa := false } : PP).re 0) hN hb hq hs (Out.put (Out.put (Out.put (Out.refl _ _) (by rfl)) (by rfl)) (by rfl)) (by simpa [rrow, PP.re] using heap_set (heap_set (heap_set hb 3 (.bool false)) 2 (.int .i64 0)) 1 (.int .i64 (p.m + 1))) hW.symm
      exact ⟨h5.q.drew n, h5.out.trans (Out.drew (X := S) _ n) (fun i hi _ => hi)⟩
    rw [e] at c2
    clear h hb hq hs ho hi h1 hW HD
    generalize p.W.length = L at *
    go_enter Try.func33, Try.ntmps33
    go_wp2
    go_quiet (fail)
    go_wp2
    go_returns
    exact ⟨rfl, HE.out _⟩

set_option maxRecDepth 100000 in
set_option maxHeartbeats 4000000 in
theorem rAcked_any {N : Nat} {S : Nat → Prop} {w : World} {c : Nat} {p : PP} (h : RP N S w c p) (hN : N ≤ w.heap.size) (ho : p.Ok) (hi : Iv p) (hlm : p.W.length ≤ 1000) (x : Int) (hx0 : 0 ≤ x) (hx1 : x ≤ 4611686018427387904) :
    Calls Try.prog 29 #[.pointer (some ⟨c, 0, none⟩), .int .i64 x] w fun e w' => e = .returned (.bool (decide (p.m < x))) ∧ RTh N S w w' c (p.acked x) := by
  obtain ⟨a, k, ⟨⟨c0, c1, c2, c3, c4, c5, c6⟩, cf⟩, hb, hq, hs⟩ := h.cells
  have hst : p.st = 0 ∨ p.st = 1 ∨ p.st = 2 := by have := ho.s0; have := ho.s2; omega
  have hmn := ho.mn
  have hm0 := ho.m0
  have hn1 := ho.n1
  have hw1 : IntKind.i64.wrap (x + 1) = x + 1 := by rw [IntKind.wrap_i64]; omega
  have hw2 : IntKind.i64.wrap (max p.m x + 1) = max p.m x + 1 := by rw [IntKind.wrap_i64]; omega
  -- what the stores ahead of free leave
  have HW1 : Hid (∀ W1, (p.m < x → W1 = ((w.setCell ⟨c, 0, none⟩ (.int .i64 x)).setCell ⟨c, 1, none⟩ (.int .i64 (max p.n (x + 1)))).setCell ⟨c, 3, none⟩ (.bool false)) → (¬ p.m < x → W1 = w.setCell ⟨c, 3, none⟩ (.bool false)) → Calls Try.prog 48 #[.pointer (some ⟨c, 0, none⟩), .int .i64 x] W1 fun e w' => e = .returned (.tuple #[]) ∧ RTh N S w w' c (p.ack x)) := fun W1 hA hB => by
    have hp1 : RTh N S w W1 c { p with m := max p.m x, n := max p.n (max p.m x + 1), pa := false } := by
      by_cases hg : p.m < x
      · rw [hA hg]
        have e1 : max p.m x = x := by omega
        rw [e1]
        exact h.set (p' := { p with m := x, n := max p.n (x + 1), pa := false }) hN hb hq hs (Out.put (Out.put (Out.put (Out.refl _ _) (by rfl)) (by rfl)) (by rfl)) (by simpa [rrow] using heap_set (heap_set (heap_set hb 0 (.int .i64 x)) 1 (.int .i64 (max p.n (x + 1)))) 3 (.bool false)) rfl
      · rw [hB hg]
        have e1 : max p.m x = p.m := by omega
        have e2 : max p.n (p.m + 1) = p.n := by omega
        rw [e1, e2]
        exact h.set (p' := { p with pa := false }) hN hb hq hs (Out.set rfl) (by simpa [rrow] using heap_set hb 3 (.bool false)) rfl
    refine (rFree_any hp1.q (Nat.le_trans hN hp1.out.size) x hlm).mono ?_
    rintro e w' ⟨rfl, ht⟩
    exact ⟨rfl, hp1.step ht hN⟩
  have HC : Hid (∀ w2, RTh N S w w2 c (p.ack x) → (w2.cell? ⟨c, 0, none⟩ = some (.int .i64 (max p.m x)) ∧ w2.cell? ⟨c, 1, none⟩ = some (.int .i64 (max p.n (max p.m x + 1))) ∧ w2.cell? ⟨c, 2, none⟩ = some (.int .i64 p.st) ∧ w2.cell? ⟨c, 6, none⟩ = some (.int .i64 p.sn) ∧ ∃ a2 k2 n2, w2.cell? ⟨c, 4, none⟩ = some (.slice a2 n2 k2)) ∧ ∀ o, w2.frozen? ⟨c, o, none⟩ = false) := fun w2 ht => by
    obtain ⟨a2, k2, ⟨⟨d0, d1, d2, d3, d4, d5, d6⟩, df⟩, -⟩ := ht.q.cells
    exact ⟨⟨d0, d1, d2, d6, a2, k2, _, d4⟩, df⟩
  have HDR : Hid (∀ w2 n, RTh N S w w2 c (p.ack x) → RTh N S w (w2.drewN n) c (p.ack x)) := fun w2 n ht => ⟨ht.q.drew n, ht.out.trans (Out.drew (X := S) _ n) (fun i hi _ => hi)⟩
  have HR1 : Hid (∀ w2, RTh N S w w2 c (p.ack x) → RTh N S w (((w2.setCell ⟨c, 2, none⟩ (.int .i64 1)).setCell ⟨c, 4, none⟩ (.slice none 0 0)).setCell ⟨c, 1, none⟩ (.int .i64 (max p.m x + 1))) c ((p.ack x).re 1)) := fun w2 ht => by
    obtain ⟨a2, k2, -, hb2, hq2, hs2⟩ := ht.q.cells
    refine ht.step (ht.q.setN (Nat.le_trans hN ht.out.size) (Out.put (Out.put (Out.put (Out.refl _ _) (by rfl)) (by rfl)) (by rfl)) ?_ rfl) hN
    simpa [rrow, PP.re, PP.ack] using heap_set (heap_set (heap_set hb2 2 (.int .i64 1)) 4 (.slice none 0 0)) 1 (.int .i64 (max p.m x + 1))
  have HR0 : Hid (p.st = 2 → ∀ w2 n, RTh N S w w2 c (p.ack x) → RTh N S w (((w2.setCell ⟨c, 2, none⟩ (.int .i64 0)).setCell ⟨c, 1, none⟩ (.int .i64 (max p.m x + 1))).drewN n) c ((p.ack x).re 0)) := fun e w2 n ht => by
    obtain ⟨a2, k2, -, hb2, hq2, hs2⟩ := ht.q.cells
    have hW : (p.ack x).W = [] := by show freeL p.W x = []; rw [hi.no (by omega)]; rfl
    have h5 := ht.step (ht.q.set (p' := (p.ack x).re 0) (Nat.le_trans hN ht.out.size) hb2 hq2 hs2 (Out.put (Out.put (Out.refl _ _) (by rfl)) (by rfl)) (by simpa [rrow, PP.re, PP.ack] using heap_set (heap_set hb2 2 (.int .i64 0)) 1 (.int .i64 (max p.m x + 1))) (by rw [hW]; rfl)) hN
    exact ⟨h5.q.drew n, h5.out.trans (Out.drew (X := S) _ n) (fun i hi _ => hi)⟩
  have HAK : Hid (p.acked x = if p.st = 0 then (if p.m ≤ x then (p.ack x).re 1 else p.ack x) else if p.st = 1 then p.ack x else (if p.sn ≤ max p.m x then (p.ack x).re 0 else p.ack x)) := rfl
  clear h hb hq hs ho hi
  generalize p.W.length = L at *
  rw [HAK.out]
  have fin : True := trivial
  by_cases hg : p.m < x
  · have HF : Hid (Calls _ _ _ _ _) := HW1.out _ (fun _ => rfl) (fun h => absurd hg h)
    have hgd : decide (p.m < x) = true := by simpa using hg
    rw [hgd]
    clear HW1
    rcases hst with e | e | e
    · rw [if_pos e, if_pos (by omega)]
      rw [e] at c2
      have hle : p.m ≤ x := by omega
      go_enter Try.func29, Try.ntmps29
      go_wp2_with (go_at_call 48; refine HF.out.mono ?_; rintro r w2 ⟨rfl, ht⟩; obtain ⟨⟨d0, d1, d2, d6, a2, k2, n2, d4⟩, df⟩ := HC.out w2 ht; rw [e] at d2; have HT := HR1.out w2 ht; have HT' : Hid _ := HT; clear ht HT)
      go_ret
      exact ⟨rfl, HT'.out⟩
    · rw [if_neg (by omega), if_pos e]
      rw [e] at c2
      go_enter Try.func29, Try.ntmps29
      go_wp2_with (go_at_call 48; refine HF.out.mono ?_; rintro r w2 ⟨rfl, ht⟩; obtain ⟨⟨d0, d1, d2, d6, a2, k2, n2, d4⟩, df⟩ := HC.out w2 ht; rw [e] at d2; have HT := fun n => HDR.out w2 n ht; have HT' : Hid (∀ n, _) := HT; clear ht HT)
      go_quiet (fail)
      go_wp2
      go_ret
      exact ⟨rfl, HT'.out _⟩
    · rw [if_neg (by omega), if_neg (by omega)]
      rw [e] at c2
      by_cases hsn : p.sn ≤ max p.m x
      · rw [if_pos hsn]
        go_enter Try.func29, Try.ntmps29
        go_wp2_with (go_at_call 48; refine HF.out.mono ?_; rintro r w2 ⟨rfl, ht⟩; obtain ⟨⟨d0, d1, d2, d6, a2, k2, n2, d4⟩, df⟩ := HC.out w2 ht; rw [e] at d2; have HT := fun n => HR0.out e w2 n ht; have HT' : Hid (∀ n, _) := HT; clear ht HT)
        go_quiet (fail)
        go_wp2
        go_ret
        exact ⟨rfl, HT'.out _⟩
      · rw [if_neg hsn]
        go_enter Try.func29, Try.ntmps29
        go_wp2_with (go_at_call 48; refine HF.out.mono ?_; rintro r w2 ⟨rfl, ht⟩; obtain ⟨⟨d0, d1, d2, d6, a2, k2, n2, d4⟩, df⟩ := HC.out w2 ht; rw [e] at d2; have HT := fun n => HDR.out w2 n ht; have HT' : Hid (∀ n, _) := HT; clear ht HT)
        go_quiet (fail)
        go_wp2
        go_ret
        exact ⟨rfl, HT'.out _⟩
  · have HF : Hid (Calls _ _ _ _ _) := HW1.out _ (fun h => absurd h hg) (fun _ => rfl)
    have hgd : decide (p.m < x) = false := by simpa using hg
    rw [hgd]
    clear HW1
    rcases hst with e | e | e
    · rw [if_pos e]
      rw [e] at c2
      by_cases hle : p.m ≤ x
      · rw [if_pos hle]
        go_enter Try.func29, Try.ntmps29
        go_wp2_with (go_at_call 48; refine HF.out.mono ?_; rintro r w2 ⟨rfl, ht⟩; obtain ⟨⟨d0, d1, d2, d6, a2, k2, n2, d4⟩, df⟩ := HC.out w2 ht; rw [e] at d2; have HT := HR1.out w2 ht; have HT' : Hid _ := HT; clear ht HT)
        go_ret
        exact ⟨rfl, HT'.out⟩
      · rw [if_neg hle]
        go_enter Try.func29, Try.ntmps29
        go_wp2_with (go_at_call 48; refine HF.out.mono ?_; rintro r w2 ⟨rfl, ht⟩; obtain ⟨⟨d0, d1, d2, d6, a2, k2, n2, d4⟩, df⟩ := HC.out w2 ht; rw [e] at d2; have HT := fun n => HDR.out w2 n ht; have HT' : Hid (∀ n, _) := HT; clear ht HT)
        go_quiet (fail)
        go_wp2
        go_ret
        exact ⟨rfl, HT'.out _⟩
    · rw [if_neg (by omega), if_pos e]
      rw [e] at c2
      go_enter Try.func29, Try.ntmps29
      go_wp2_with (go_at_call 48; refine HF.out.mono ?_; rintro r w2 ⟨rfl, ht⟩; obtain ⟨⟨d0, d1, d2, d6, a2, k2, n2, d4⟩, df⟩ := HC.out w2 ht; rw [e] at d2; have HT := fun n => HDR.out w2 n ht; have HT' : Hid (∀ n, _) := HT; clear ht HT)
      go_quiet (fail)
      go_wp2
      go_ret
      exact ⟨rfl, HT'.out _⟩
    · rw [if_neg (by omega), if_neg (by omega)]
      rw [e] at c2
      by_cases hsn : p.sn ≤ max p.m x
      · rw [if_pos hsn]
        go_enter Try.func29, Try.ntmps29
        go_wp2_with (go_at_call 48; refine HF.out.mono ?_; rintro r w2 ⟨rfl, ht⟩; obtain ⟨⟨d0, d1, d2, d6, a2, k2, n2, d4⟩, df⟩ := HC.out w2 ht; rw [e] at d2; have HT := fun n => HR0.out e w2 n ht; have HT' : Hid (∀ n, _) := HT; clear ht HT)
        go_quiet (fail)
        go_wp2
        go_ret
        exact ⟨rfl, HT'.out _⟩
      · rw [if_neg hsn]
        go_enter Try.func29, Try.ntmps29
        go_wp2_with (go_at_call 48; refine HF.out.mono ?_; rintro r w2 ⟨rfl, ht⟩; obtain ⟨⟨d0, d1, d2, d6, a2, k2, n2, d4⟩, df⟩ := HC.out w2 ht; rw [e] at d2; have HT := fun n => HDR.out w2 n ht; have HT' : Hid (∀ n, _) := HT; clear ht HT)
        go_quiet (fail)
        go_wp2
        go_ret
        exact ⟨rfl, HT'.out _⟩
end Go.Proofs.Ytdgaimiggejleaa
