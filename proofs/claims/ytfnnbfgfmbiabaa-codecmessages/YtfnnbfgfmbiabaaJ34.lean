/-
  GetE; GetU; GetV.
-/
import Derived.Test.YtfnnbfgfmbiabaaJ33
import Derived.Test.YtfnnbfgfmbiabaaJ13
import Derived.Test.YtfnnbfgfmbiabaaJ19
import Derived.Test.YtfnnbfgfmbiabaaJ20
import Derived.Test.YtfnnbfgfmbiabaaJ15
/-
  Entries read, one behind the other.
-/
namespace Go.Proofs.Ytfnnbfgfmbiabaa
open Go.RowKit Go.Shelf

/-- An entry as numbers and bytes. -/
def Ent.of (x : Nat × Nat × Nat × List UInt8) (a : Option Addr) (c : Nat) : Ent := ⟨(x.1 : Int), (x.2.1 : Int), (x.2.2.1 : Int), a, c, x.2.2.2⟩
/-- What entries say, of numbers. -/
def saysN (L : List (Nat × Nat × Nat × List UInt8)) : List (Int × Int × Int × List UInt8) := L.map fun x => ((x.1 : Int), (x.2.1 : Int), (x.2.2.1 : Int), x.2.2.2)

/-- As many entries as a number says: the error, the entries, the reader's state. -/
def rdEs (l : List UInt8) (size : Int) : Nat → (Nat × Nat) → Nat × List (Nat × Nat × Nat × List UInt8) × (Nat × Nat)
  | 0, s => (0, [], s)
  | k + 1, s =>
    if (rdB l size s).2.2 ≠ 0 then ((rdB l size s).2.2, [], (rdB l size s).2)
    else if geEntry (rdB l size s).1 ≠ 0 then (geEntry (rdB l size s).1, [], (rdB l size s).2)
    else ((rdEs l size k (rdB l size s).2).1, goEntry (rdB l size s).1 :: (rdEs l size k (rdB l size s).2).2.1, (rdEs l size k (rdB l size s).2).2.2)

/-- The cells of entries. -/
def entCells : List Ent → List Value
  | [] => []
  | e :: r => [.int .i64 e.t, .int .i64 e.i, .int .i64 e.k, e.x] ++ entCells r
theorem entCells_append (a b : List Ent) : entCells (a ++ b) = entCells a ++ entCells b := by
  induction a with
  | nil => rfl
  | cons e r ih => simp [entCells, ih]

/-- Entries of a call's own. -/
structure EntsOw (N : Nat) (w : World) (v : Value) (es : List Ent) : Prop where
  row : w.ownsRow N 24 4 v es.length (entCells es)
  dat : ∀ e ∈ es, Ow N w e.x e.d

theorem EntsOw.nil (N : Nat) (w : World) : EntsOw N w (.slice none 0 0) [] := ⟨World.ownsRow_nil _ _ _ _, by simp⟩
/-- They stay where one block below N, or one that is none of theirs, is turned. -/
theorem EntsOw.kept {N : Nat} {w w' : World} {v : Value} {es : List Ent} {R : Nat} (h : EntsOw N w v es) (hg : w.grownBy w' (some R)) (hR : R < N) : EntsOw N w' v es := by
  refine ⟨h.row.kept hg ?_, fun e he => (h.dat e he).kept hg ?_⟩
  · cases hv : v.ownBlock with
    | none => exact .inl rfl
    | some k => exact .inr (fun e => by cases e; have := (h.row.lt R hv).1; omega)
  · cases hv : e.x.ownBlock with
    | none => exact .inl rfl
    | some k => exact .inr (fun e' => by cases e'; have := (World.ownsRow.lt (h.dat e he) R hv).1; omega)
theorem EntsOw.base {N N' : Nat} {w : World} {v : Value} {es : List Ent} (h : EntsOw N w v es) (hN : N' ≤ N) : EntsOw N' w v es := by
  refine ⟨⟨h.row.1, ?_⟩, fun e he => (h.dat e he).base hN⟩
  rcases h.row.2 with h2 | ⟨g, cap, cur, hv, hg, r⟩
  · exact .inl h2
  · exact .inr ⟨g, cap, cur, hv, by omega, r⟩

theorem cell_four_new (w : World) (a b c d : Value) (t : TypeId) : ∀ j u, [a, b, c, d][j]? = some u → (w.alloc (.cells #[a, b, c, d] t)).cell? ((⟨w.heap.size, 0, none⟩ : Addr).add j) = some u := by
  intro j u hj
  have hh := World.alloc_heap_new w (.cells #[a, b, c, d] t)
  rw [Addr.add_lit]
  simp only [World.cell?, hh, Nat.zero_add]
  simpa using hj

/-- An entry's bytes lie apart from the row of entries. -/
theorem EntsOw.apart {N M : Nat} {w : World} {v u : Value} {es : List Ent} {d : List UInt8} (h : EntsOw N w v es) (hO : Ow M w u d) : u.ownBlock = none ∨ u.ownBlock ≠ v.ownBlock := by
  rcases h.row.2 with ⟨hv, -⟩ | ⟨g, cap, cur, hv, hg, hh, -⟩
  · subst hv
    cases hu : u.ownBlock
    · exact .inl rfl
    · exact .inr (by simp [Value.ownBlock])
  · subst hv
    exact .inr (hO.not_at hh (by decide))

theorem EntsOw.push {N : Nat} {w w' : World} {v v' : Value} {es : List Ent} {e : Ent} (h : EntsOw N w v es) (hO : Ow N w e.x e.d) (hrow : w'.ownsRow N 24 4 v' (es.length + 1) (entCells es ++ [.int .i64 e.t, .int .i64 e.i, .int .i64 e.k, e.x])) (hg : w.grownBy w' v.ownBlock) : EntsOw N w' v' (es ++ [e]) := by
  refine ⟨?_, fun x hx => ?_⟩
  · rw [entCells_append]
    simpa [entCells] using hrow
  · rcases List.mem_append.1 hx with hx | hx
    · exact (h.dat x hx).kept hg (h.apart (h.dat x hx))
    · obtain rfl := List.mem_singleton.1 hx
      exact hO.kept hg (h.apart hO)

theorem EntsOw.alloc {N : Nat} {w : World} {v : Value} {es : List Ent} (h : EntsOw N w v es) (o : Obj) : EntsOw N (w.alloc o) v es := ⟨h.row.alloc o, fun e he => (h.dat e he).alloc o⟩
theorem Rr.grown {w0 w w' : World} {R : Nat} {l : List UInt8} {p e : Nat} {row : Option Nat} (h : Rr w0 w R l p e) (hg : w.grownBy w' row) (hrow : ∀ k, row = some k → R < k) : Rr w0 w' R l p e := by
  cases row with
  | none => exact h.mono ⟨hg.os, hg.tape, hg.output, hg.size, fun k hk => hg.block k hk (by simp)⟩
  | some k =>
    have hk := hrow k rfl
    have hle := h.rdr.le
    exact ⟨h.rdr.kept hg (.inl hk), h.bel.grown hg h.bel.size (fun j e => by cases e; omega), h.len, h.le⟩

theorem rrIg {w0 w : World} {R : Nat} {l : List UInt8} {a e n a' e' : Nat} (h : Rr w0 w R l a e) (hr : Hid (rdN l (a, e) = (n, (a', e')))) :
    Calls Try.prog 66 #[.pointer (some ⟨R, 0, none⟩)] w fun r w' => r = .returned (.int .i64 (n : Int)) ∧ Rr w0 w' R l a' e' ∧ w.grownBy w' (some R) := by
  have hle := rdN_le l (a, e) h.le
  refine (rInt_any _ R l a e w h.rdr h.len h.le).mono ?_
  rintro r w' ⟨rfl, h', hg⟩
  have h2 := hr.out
  rw [h2] at hle
  simp only [rdN, Prod.mk.injEq] at h2
  obtain ⟨rfl, rfl, rfl⟩ := h2
  exact ⟨rfl, h.turn h' hg hle, hg⟩

set_option maxRecDepth 100000 in
set_option maxHeartbeats 1000000 in
theorem getNumberG_any {w0 w : World} {R : Nat} {l : List UInt8} {p e n p' e' : Nat} (h : Rr w0 w R l p e) (hr : Hid (rdN l (p, e) = (n, (p', e')))) :
    Calls Try.prog 94 #[.pointer (some ⟨R, 0, none⟩)] w fun r w' => r = .returned (.tuple #[.int .i64 (n : Int), .int .i64 (e' : Int)]) ∧ Rr w0 w' R l p' e' ∧ w.grownBy w' (some R) := by
  have HF : Hid ((if p < p' then 0 else doneE l p' e') = e') := (fail_num l p e n p' e' hr.out).1
  have HFF : Hid (∀ w', Rr w0 w' R l p' e' → Calls Try.prog 116 #[.pointer (some ⟨R, 0, none⟩), .int .i64 (p : Int)] w' fun r w'' => r = .returned (.int .i64 (e' : Int)) ∧ Below w'.heap.size w' w'') := fun w' h' => by
    have := failure_any p h'
    rw [HF.out] at this
    exact this
  clear HF
  go_enter Try.func94, Try.ntmps94
  go_wp2_with (first
    | (go_at_call 115; refine (rrAt_any h).mono ?_; rintro r w' ⟨rfl, hw⟩; subst w')
    | (go_at_call 66; refine (rrIg h hr).mono ?_; rintro r w1 ⟨rfl, h1, hg1⟩)
    | (go_at_call 116; refine (HFF.out _ h1).mono ?_; rintro r w2 ⟨rfl, hB2⟩))
  go_ret2
  exact ⟨rfl, h1.mono hB2, grown_trans hg1 (Below.grownBy' hB2 none) (by simp)⟩

theorem info24 : (Try.prog.info? 24).map (fun i => (i.zero, i.size, i.bytes)) = some (some (.agg #[.int .i64 0, .int .i64 0, .int .i64 0, .slice none 0 0]), 4, 48) := by kernel_rfl

set_option maxRecDepth 100000 in
set_option maxHeartbeats 8000000 in
theorem getAll_any {w0 w : World} {R : Nat} {l : List UInt8} {p e n p1 e1 : Nat} (most size : Int) (h : Rr w0 w R l p e) (hr : Hid (rdN l (p, e) = (n, (p1, e1)))) (hl : l.length ≤ 1000000000) :
    Calls Try.prog 118 #[.pointer (some ⟨R, 0, none⟩), .iface 27 (.agg #[]), .int .i64 most, .int .i64 size] w fun r w' =>
      ∃ v es, r = .returned (.tuple #[v, .int .i64 ((if e1 ≠ 0 then e1 else if most < (n : Int) then 3 else (rdEs l size n (p1, e1)).1 : Nat) : Int)]) ∧ EntsOw w.heap.size w' v es ∧
        (e1 = 0 → (n : Int) ≤ most → (rdEs l size n (p1, e1)).1 = 0 → es.map Ent.says = saysN (rdEs l size n (p1, e1)).2.1 ∧ Rr w0 w' R l (rdEs l size n (p1, e1)).2.2.1 (rdEs l size n (p1, e1)).2.2.2) ∧ w.grownBy w' (some R) := by
  have hn62 : n ≤ 4611686018427387904 := by
    have := (pk_bd l p e).1
    have h2 := hr.out
    simp only [rdN, Prod.mk.injEq] at h2
    omega
  by_cases he : e1 = 0
  case neg =>
    rw [if_pos he]
    have hke : ((e1 : Int) != 0) = true := by simp; omega
    go_enter Try.func118, Try.ntmps118
    go_wp2_with (go_at_call 94; refine (getNumberG_any h hr).mono ?_; rintro r w1 ⟨rfl, h1, hg1⟩)
    go_ret2
    exact ⟨_, [], rfl, EntsOw.nil _ _, fun h => absurd h he, hg1⟩
  subst he
  rw [if_neg (by simp)]
  by_cases hm : most < (n : Int)
  case pos =>
    rw [if_pos hm]
    go_enter Try.func118, Try.ntmps118
    go_wp2_with (go_at_call 94; refine (getNumberG_any h hr).mono ?_; rintro r w1 ⟨rfl, h1, hg1⟩)
    go_ret2
    exact ⟨_, [], rfl, EntsOw.nil _ _, fun _ h => by omega, hg1⟩
  rw [if_neg hm]
  obtain ⟨X, HX⟩ : ∃ X, Hid (rdEs l size n (p1, 0) = X) := ⟨_, rfl⟩
  rw [HX.out]
  go_enter Try.func118, Try.ntmps118
  go_wp2_with (go_at_call 94; refine (getNumberG_any h hr).mono ?_; rintro r w1 ⟨rfl, h1, hg1⟩)
  obtain ⟨i0, hi, hz0, hz1, hz2⟩ := info_parts info24
  have HRL : Hid (R < w.heap.size) := h.rdr.lt
  have HD : Hid (∀ m s, rdEs l size (m + 1) s = (if (rdB l size s).2.2 ≠ 0 then ((rdB l size s).2.2, [], (rdB l size s).2)
    else if geEntry (rdB l size s).1 ≠ 0 then (geEntry (rdB l size s).1, [], (rdB l size s).2)
    else ((rdEs l size m (rdB l size s).2).1, goEntry (rdB l size s).1 :: (rdEs l size m (rdB l size s).2).2.1, (rdEs l size m (rdB l size s).2).2.2))) := fun m s => rfl
  go_loopw [12, 27] (fun lv iv wr => ∃ (j p2 vc : Nat) (va : Option Addr) (es : List Ent), iv = .int .i64 (j : Int) ∧ lv = .slice va es.length vc ∧ j ≤ n ∧ EntsOw w.heap.size wr (.slice va es.length vc) es ∧ es.length = j ∧ j ≤ p2 ∧ Rr w0 wr R l p2 0 ∧ w.grownBy wr (some R) ∧
      (rdEs l size (n - j) (p2, 0)).1 = X.1 ∧ (rdEs l size (n - j) (p2, 0)).2.2 = X.2.2 ∧ es.map Ent.says ++ saysN (rdEs l size (n - j) (p2, 0)).2.1 = saysN X.2.1) (fun _ iv _ => n - (intOf iv).toNat)
  case atStart => exact ⟨0, p1, 0, none, [], rfl, rfl, Nat.zero_le _, EntsOw.nil _ _, rfl, Nat.zero_le _, h1, hg1, by simp [HX.out], by simp [HX.out], by simp [HX.out]⟩
  case round =>
    obtain ⟨j, p2, vc, va, es, rfl, rfl, hj, hE, hel, hjp, h2, hg2, x1, x2, x3⟩ := hrel
    have HXX : Hid ((rdEs l size (n - j) (p2, 0)).1 = X.1 ∧ (rdEs l size (n - j) (p2, 0)).2.2 = X.2.2 ∧ es.map Ent.says ++ saysN (rdEs l size (n - j) (p2, 0)).2.1 = saysN X.2.1) := ⟨x1, x2, x3⟩
    have HEL : Hid (es.length = j) := hel
    clear x1 x2 x3 hel
    by_cases hlt : j < n
    · obtain ⟨m, hm1⟩ : ∃ m, n - j = m + 1 := ⟨n - j - 1, by omega⟩
      have HM : Hid (n - (j + 1) = m) := by show n - (j + 1) = m; omega
      have hxx := HXX.out
      rw [hm1] at hxx
      obtain ⟨t, p3, e3, H3⟩ : ∃ t p3 e3, Hid (rdB l size (p2, 0) = (t, (p3, e3))) := ⟨_, _, _, rfl⟩
      simp only [HD.out, H3.out] at hxx
      have hone := fun (G : Nat × Nat × Nat × List UInt8) (E : Nat) hG hE => getOneEntry_any size h2 H3 G E hG hE
      clear HXX hm1
      by_cases h3 : e3 = 0
      case neg =>
        have HX1 : Hid (X.1 = e3) := by
          have := hxx.1
          rw [if_pos h3] at this
          exact this.symm
        have hke : ((e3 : Int) != 0) = true := by simp; omega
        have ho := hone (0, 0, 0, []) e3 (by rw [if_pos h3]) (by rw [if_pos h3])
        clear hone hxx
        go_wp2_with (go_at_call 125; refine ho.mono ?_; rintro r w5 ⟨u5, rfl, hO5, h5, hg5⟩; obtain ⟨ua, uc, rfl, -, -⟩ := hO5.shape)
        go_ret2
        exact ⟨_, [], by rw [HX1.out]; rfl, EntsOw.nil _ _, fun _ _ h => absurd (HX1.out.symm.trans h) h3, grown_trans (grown_trans hg2 hg5 (fun k e => .inl e)) (World.grownBy_alloc w5 _ none) (by simp)⟩
      subst h3
      simp only [ne_eq, not_true, if_false] at hxx
      by_cases h4 : geEntry t = 0
      case neg =>
        have HX1 : Hid (X.1 = geEntry t) := by
          have := hxx.1
          rw [if_pos h4] at this
          exact this.symm
        have ho := hone (goEntry t) (geEntry t) (by simp) (by simp)
        obtain ⟨E4, hE4⟩ : ∃ E4, geEntry t = E4 := ⟨_, rfl⟩
        rw [hE4] at ho HX1 h4
        clear hE4
        have hke : ((E4 : Int) != 0) = true := by simp; omega
        clear hone hxx
        obtain ⟨G, hG⟩ : ∃ G, goEntry t = G := ⟨_, rfl⟩
        rw [hG] at ho
        clear hG
        obtain ⟨G0, G1, G2, G3⟩ := G
        simp only at ho
        go_wp2_with (go_at_call 125; refine ho.mono ?_; rintro r w5 ⟨u5, rfl, hO5, h5, hg5⟩; obtain ⟨ua, uc, rfl, -, -⟩ := hO5.shape)
        go_ret2
        exact ⟨_, [], by rw [HX1.out]; rfl, EntsOw.nil _ _, fun _ _ h => absurd (HX1.out.symm.trans h) h4, grown_trans (grown_trans hg2 hg5 (fun k e => .inl e)) (World.grownBy_alloc w5 _ none) (by simp)⟩
      have ho := hone (goEntry t) 0 (by simp) (by simp [h4])
      rw [if_neg (by simpa using h4)] at hxx
      have hp23 : p2 < p3 ∧ p3 ≤ l.length := by
        have hle := rdB_le l size (p2, 0) h2.le
        rw [H3.out] at hle
        simp only at hle
        refine ⟨?_, hle⟩
        have := H3.out
        simp only [rdB, Prod.mk.injEq] at this
        rcases takeAt_cases l p2 0 size with ⟨x, hx, h⟩ | ⟨t', q, hq, h⟩
        · rw [h] at this; exact absurd this.2.2 hx
        · rw [h] at this; simp only at this; omega
      obtain ⟨G, hG⟩ : ∃ G, goEntry t = G := ⟨_, rfl⟩
      rw [hG] at ho hxx
      clear hG
      obtain ⟨G0, G1, G2, G3⟩ := G
      simp only at ho hxx
      have HXN : Hid ((rdEs l size m (p3, 0)).1 = X.1 ∧ (rdEs l size m (p3, 0)).2.2 = X.2.2 ∧ ∀ ua uc, (es ++ [(⟨(G0 : Int), (G1 : Int), (G2 : Int), ua, uc, G3⟩ : Ent)]).map Ent.says ++ saysN (rdEs l size m (p3, 0)).2.1 = saysN X.2.1) := by
        refine ⟨hxx.1, hxx.2.1, fun ua uc => ?_⟩
        have := hxx.2.2
        simp only [saysN, List.map_cons, List.map_append, List.map_nil, Ent.says, List.append_assoc, List.cons_append, List.nil_append] at this ⊢
        exact this
      clear hone hxx
      have HJ : Hid (es.length ≤ 1000000000) := by show es.length ≤ 1000000000; have := HEL.out; omega
      go_wp2_with (first
        | (go_at_call 125; refine ho.mono ?_; rintro r w5 ⟨u5, rfl, hO5, h5, hg5⟩; obtain ⟨ua, uc, rfl, -, -⟩ := hO5.shape)
        | (at_builtin; refine wpList_append_own _ rfl _ _ 93 rfl w.heap.size 24 i0 (.agg #[.int .i64 0, .int .i64 0, .int .i64 0, .slice none 0 0]) 4 48 Try.underlying93 hi hz0 hz1 hz2 rfl (by decide) _ es.length (entCells es) rfl ((((hE.kept hg5 HRL.out).row.alloc _).alloc _)) ⟨w5.heap.size + 1, 0, none⟩ 1 1 [.int .i64 (G0 : Int), .int .i64 (G1 : Int), .int .i64 (G2 : Int), .slice ua G3.length uc] rfl rfl (by simpa using cell_four_new (w5.alloc (.cells #[.int .i64 (G0 : Int), .int .i64 (G1 : Int), .int .i64 (G2 : Int), .slice ua G3.length uc] 24)) _ _ _ _ 24) (by intro u hu; simp at hu; rcases hu with rfl | rfl | rfl | rfl <;> rfl) (by have := HJ.out; unfold maxLen; omega) (by have := HJ.out; omega) (by have := hg2.size; have := hg5.size; simp; omega) ?_; intro v7 w7 hown7 hgrow7 _))
      have hE6 := ((hE.kept hg5 HRL.out).alloc (.cells #[.int .i64 (G0 : Int), .int .i64 (G1 : Int), .int .i64 (G2 : Int), .slice ua G3.length uc] 24)).alloc (.cells #[.int .i64 (G0 : Int), .int .i64 (G1 : Int), .int .i64 (G2 : Int), .slice ua G3.length uc] 24)
      have hO6 := ((hO5.base (N' := w.heap.size) hg2.size).alloc (.cells #[.int .i64 (G0 : Int), .int .i64 (G1 : Int), .int .i64 (G2 : Int), .slice ua G3.length uc] 24)).alloc (.cells #[.int .i64 (G0 : Int), .int .i64 (G1 : Int), .int .i64 (G2 : Int), .slice ua G3.length uc] 24)
      have hE7 := hE6.push (e := ⟨(G0 : Int), (G1 : Int), (G2 : Int), ua, uc, G3⟩) hO6 hown7 hgrow7
      have hgk : ∀ k, (Value.slice va es.length vc).ownBlock = some k → w.heap.size ≤ k := fun k hk => (hE.row.lt k hk).1
      have hB6 : Below w5.heap.size w5 ((w5.alloc (.cells #[.int .i64 (G0 : Int), .int .i64 (G1 : Int), .int .i64 (G2 : Int), .slice ua G3.length uc] 24)).alloc (.cells #[.int .i64 (G0 : Int), .int .i64 (G1 : Int), .int .i64 (G2 : Int), .slice ua G3.length uc] 24)) := (((Below.refl _ w5).alloc (Nat.le_refl _) _).alloc (by simp) _)
      have hR7 := (h5.mono hB6).grown hgrow7 (fun k hk => by have := hgk k hk; have := HRL.out; omega)
      have hG7 : w.grownBy w7 (some R) := grown_trans (grown_trans (grown_trans hg2 hg5 (fun k e => .inl e)) (Below.grownBy' hB6 none) (by simp)) hgrow7 (fun k hk => .inr (hgk k hk))
      have hv7 : ∃ va7 vc7, v7 = .slice va7 (es ++ [(⟨(G0 : Int), (G1 : Int), (G2 : Int), ua, uc, G3⟩ : Ent)]).length vc7 := by
        rcases hE7.row.2 with ⟨hv, h0⟩ | ⟨g, cap, cur, hv, r⟩
        · rw [h0]; exact ⟨_, _, hv⟩
        · exact ⟨_, _, hv⟩
      obtain ⟨va7, vc7, rfl⟩ := hv7
      refine ⟨⟨j + 1, p3, vc7, va7, es ++ [⟨(G0 : Int), (G1 : Int), (G2 : Int), ua, uc, G3⟩], by go_num, rfl, by omega, hE7, by simp [HEL.out], by omega, hR7, hG7, ?_⟩, by simp [intOf]; omega⟩
      rw [HM.out]
      exact ⟨HXN.out.1, HXN.out.2.1, HXN.out.2.2 ua uc⟩
    · have hnj : n - j = 0 := by omega
      have HF : Hid (X.1 = 0 ∧ es.map Ent.says = saysN X.2.1 ∧ Rr w0 wr R l X.2.2.1 X.2.2.2) := by
        obtain ⟨a1, a2, a3⟩ := HXX.out
        rw [hnj] at a1 a2 a3
        simp only [rdEs] at a1 a2 a3
        rw [← a2]
        exact ⟨a1.symm, by simpa [saysN] using a3, h2⟩
      clear hnj
      go_wp2
      go_ret2
      exact ⟨_, es, by rw [HF.out.1]; rfl, hE, fun _ _ _ => HF.out.2, hg2⟩
end Go.Proofs.Ytfnnbfgfmbiabaa

/-
  What a message's kind uses, read: the code's.
-/
namespace Go.Proofs.Ytfnnbfgfmbiabaa
open Go.RowKit Go.Shelf

theorem Tn.setX {w w1 : World} {B X : Nat} (h : Tn w w1 B (.slice (some ⟨X, 0, none⟩) 0 0)) (o : Nat) (u : Value) : Tn w (w1.setCell ⟨X, o, none⟩ u) B (.slice (some ⟨X, 0, none⟩) 0 0) :=
  ⟨h.os, h.tape, h.output, Nat.le_trans h.size (by simp [World.setCell]), fun k hk hB hv => (Below.heap_setCell _ _ _ k (fun e => hv (by rw [e]; rfl))).trans (h.block k hk hB hv)⟩

/-- A bool is read. -/
def rdT (l : List UInt8) (s : Nat × Nat) : Bool × (Nat × Nat) := ((boolAt l s.1 s.2).1, ((boolAt l s.1 s.2).2.1, (boolAt l s.1 s.2).2.2))

theorem rrTg {w0 w : World} {R : Nat} {l : List UInt8} {a e a' e' : Nat} {n : Bool} (h : Rr w0 w R l a e) (hr : Hid (rdT l (a, e) = (n, (a', e')))) :
    Calls Try.prog 117 #[.pointer (some ⟨R, 0, none⟩)] w fun r w' => r = .returned (.bool n) ∧ Rr w0 w' R l a' e' ∧ w.grownBy w' (some R) := by
  have hle := boolAt_le l a e h.le
  refine (rBool_any _ R l a e w h.rdr h.len h.le).mono ?_
  rintro r w' ⟨rfl, h', hg⟩
  have h2 := hr.out
  simp only [rdT, Prod.mk.injEq] at h2
  obtain ⟨rfl, rfl, rfl⟩ := h2
  exact ⟨rfl, h.turn h' hg hle, hg⟩

set_option maxRecDepth 100000 in
set_option maxHeartbeats 8000000 in
theorem getU1_any (fr to tm : Int) {w0 w : World} {R X : Nat} {l : List UInt8} {p e p1 e1 p2 e2 n1 n2 : Nat} (h : Rr w0 w R l p e) (hX : w.heap[X]? = some (.cells #[.int .i64 1, .int .i64 fr, .int .i64 to, .int .i64 tm, .int .i64 0, .int .i64 0, .int .i64 0, .int .i64 0, .int .i64 0, .bool false, .slice none 0 0, .int .i64 0, .int .i64 0, .slice none 0 0] 95 (0, 0))) (hRX : R < X) (H1 : Hid (rdN l (p, e) = (n1, (p1, e1)))) (H2 : Hid (rdN l (p1, e1) = (n2, (p2, e2)))) :
    Calls Try.prog 95 #[.pointer (some ⟨R, 0, none⟩), .pointer (some ⟨X, 0, none⟩)] w fun r w' => r = .returned (.int .i64 0) ∧ Rr w0 w' R l p2 e2 ∧ w'.heap[X]? = some (.cells #[.int .i64 1, .int .i64 fr, .int .i64 to, .int .i64 tm, .int .i64 (n1 : Int), .int .i64 (n2 : Int), .int .i64 0, .int .i64 0, .int .i64 0, .bool false, .slice none 0 0, .int .i64 0, .int .i64 0, .slice none 0 0] 95 (0, 0)) ∧ Tn w w' R (.slice (some ⟨X, 0, none⟩) 0 0) := by
  have hXl := (Array.getElem?_eq_some_iff.1 hX).1
  obtain ⟨⟨q0, q1, q2, q3, q4, q5, q6, q7, q8, q9, q10, q11, q12, q13⟩, f0, f1, f2, f3, f4, f5, f6, f7, f8, f9, f10, f11, f12, f13⟩ := cells14 hX
  have HX0 : Hid (w.heap[X]? = some (.cells #[.int .i64 1, .int .i64 fr, .int .i64 to, .int .i64 tm, .int .i64 0, .int .i64 0, .int .i64 0, .int .i64 0, .int .i64 0, .bool false, .slice none 0 0, .int .i64 0, .int .i64 0, .slice none 0 0] 95 (0, 0))) := hX
  have hT0 : w.grownBy w (some R) := grown_refl w _
  clear hX
  go_enter Try.func95, Try.ntmps95
  go_wp2_with fail
  refine (rrIg h H1).mono ?_
  rintro r w1 ⟨rfl, h1, hg1⟩
  have HX1 : Hid (w1.heap[X]? = some (.cells #[.int .i64 1, .int .i64 fr, .int .i64 to, .int .i64 tm, .int .i64 0, .int .i64 0, .int .i64 0, .int .i64 0, .int .i64 0, .bool false, .slice none 0 0, .int .i64 0, .int .i64 0, .slice none 0 0] 95 (0, 0))) := (hg1.block X (by have := hT0.size; omega) (by simp; omega)).trans HX0.out
  have hT1 : w.grownBy w1 (some R) := grown_trans hT0 hg1 (fun k e => .inl e)
  clear hg1
  obtain ⟨⟨q0, q1, q2, q3, q4, q5, q6, q7, q8, q9, q10, q11, q12, q13⟩, f0, f1, f2, f3, f4, f5, f6, f7, f8, f9, f10, f11, f12, f13⟩ := cells14 HX1.out
  go_wp2_with fail
  refine (rrIg h1 H2).mono ?_
  rintro r w2 ⟨rfl, h2, hg2⟩
  have HX2 : Hid (w2.heap[X]? = some (.cells #[.int .i64 1, .int .i64 fr, .int .i64 to, .int .i64 tm, .int .i64 0, .int .i64 0, .int .i64 0, .int .i64 0, .int .i64 0, .bool false, .slice none 0 0, .int .i64 0, .int .i64 0, .slice none 0 0] 95 (0, 0))) := (hg2.block X (by have := hT1.size; omega) (by simp; omega)).trans HX1.out
  have hT2 : w.grownBy w2 (some R) := grown_trans hT1 hg2 (fun k e => .inl e)
  clear hg2
  obtain ⟨⟨q0, q1, q2, q3, q4, q5, q6, q7, q8, q9, q10, q11, q12, q13⟩, f0, f1, f2, f3, f4, f5, f6, f7, f8, f9, f10, f11, f12, f13⟩ := cells14 HX2.out
  have HF1 := (Rr.set (o := 5) (v := (.int .i64 (n2 : Int))) (Rr.set (o := 4) (v := (.int .i64 (n1 : Int))) h2 hRX) hRX)
  have HF2 := (heap_set (heap_set HX2.out 4 (.int .i64 (n1 : Int))) 5 (.int .i64 (n2 : Int)))
  have HF3 : Tn w _ R (.slice (some ⟨X, 0, none⟩) 0 0) := (Tn.setX (Tn.setX (Tn.of_grown hT2 (fun k e => .inl (by cases e; rfl))) 4 (.int .i64 (n1 : Int))) 5 (.int .i64 (n2 : Int)))
  have HF : Hid (Rr w0 _ R l p2 e2 ∧ _ ∧ Tn w _ R (.slice (some ⟨X, 0, none⟩) 0 0)) := ⟨HF1, HF2, HF3⟩
  clear HF1 HF2 HF3 h2 hT2
  go_wp2
  go_returns
  refine ⟨rfl, HF.out.1, ?_, HF.out.2.2⟩
  exact HF.out.2.1

set_option maxRecDepth 100000 in
set_option maxHeartbeats 8000000 in
theorem getU2_any (fr to tm : Int) {w0 w : World} {R X : Nat} {l : List UInt8} {p e p1 e1 : Nat} {n1 : Bool} (h : Rr w0 w R l p e) (hX : w.heap[X]? = some (.cells #[.int .i64 2, .int .i64 fr, .int .i64 to, .int .i64 tm, .int .i64 0, .int .i64 0, .int .i64 0, .int .i64 0, .int .i64 0, .bool false, .slice none 0 0, .int .i64 0, .int .i64 0, .slice none 0 0] 95 (0, 0))) (hRX : R < X) (H1 : Hid (rdT l (p, e) = (n1, (p1, e1)))) :
    Calls Try.prog 95 #[.pointer (some ⟨R, 0, none⟩), .pointer (some ⟨X, 0, none⟩)] w fun r w' => r = .returned (.int .i64 0) ∧ Rr w0 w' R l p1 e1 ∧ w'.heap[X]? = some (.cells #[.int .i64 2, .int .i64 fr, .int .i64 to, .int .i64 tm, .int .i64 0, .int .i64 0, .int .i64 0, .int .i64 0, .int .i64 0, .bool n1, .slice none 0 0, .int .i64 0, .int .i64 0, .slice none 0 0] 95 (0, 0)) ∧ Tn w w' R (.slice (some ⟨X, 0, none⟩) 0 0) := by
  have hXl := (Array.getElem?_eq_some_iff.1 hX).1
  obtain ⟨⟨q0, q1, q2, q3, q4, q5, q6, q7, q8, q9, q10, q11, q12, q13⟩, f0, f1, f2, f3, f4, f5, f6, f7, f8, f9, f10, f11, f12, f13⟩ := cells14 hX
  have HX0 : Hid (w.heap[X]? = some (.cells #[.int .i64 2, .int .i64 fr, .int .i64 to, .int .i64 tm, .int .i64 0, .int .i64 0, .int .i64 0, .int .i64 0, .int .i64 0, .bool false, .slice none 0 0, .int .i64 0, .int .i64 0, .slice none 0 0] 95 (0, 0))) := hX
  have hT0 : w.grownBy w (some R) := grown_refl w _
  clear hX
  go_enter Try.func95, Try.ntmps95
  go_wp2_with fail
  refine (rrTg h H1).mono ?_
  rintro r w1 ⟨rfl, h1, hg1⟩
  have HX1 : Hid (w1.heap[X]? = some (.cells #[.int .i64 2, .int .i64 fr, .int .i64 to, .int .i64 tm, .int .i64 0, .int .i64 0, .int .i64 0, .int .i64 0, .int .i64 0, .bool false, .slice none 0 0, .int .i64 0, .int .i64 0, .slice none 0 0] 95 (0, 0))) := (hg1.block X (by have := hT0.size; omega) (by simp; omega)).trans HX0.out
  have hT1 : w.grownBy w1 (some R) := grown_trans hT0 hg1 (fun k e => .inl e)
  clear hg1
  obtain ⟨⟨q0, q1, q2, q3, q4, q5, q6, q7, q8, q9, q10, q11, q12, q13⟩, f0, f1, f2, f3, f4, f5, f6, f7, f8, f9, f10, f11, f12, f13⟩ := cells14 HX1.out
  have HF1 := (Rr.set (o := 9) (v := (.bool n1)) h1 hRX)
  have HF2 := (heap_set HX1.out 9 (.bool n1))
  have HF3 : Tn w _ R (.slice (some ⟨X, 0, none⟩) 0 0) := (Tn.setX (Tn.of_grown hT1 (fun k e => .inl (by cases e; rfl))) 9 (.bool n1))
  have HF : Hid (Rr w0 _ R l p1 e1 ∧ _ ∧ Tn w _ R (.slice (some ⟨X, 0, none⟩) 0 0)) := ⟨HF1, HF2, HF3⟩
  clear HF1 HF2 HF3 h1 hT1
  go_wp2
  go_returns
  refine ⟨rfl, HF.out.1, ?_, HF.out.2.2⟩
  exact HF.out.2.1

set_option maxRecDepth 100000 in
set_option maxHeartbeats 8000000 in
theorem getU4_any (fr to tm : Int) {w0 w : World} {R X : Nat} {l : List UInt8} {p e p1 e1 p2 e2 p3 e3 n1 n3 : Nat} {n2 : Bool} (h : Rr w0 w R l p e) (hX : w.heap[X]? = some (.cells #[.int .i64 4, .int .i64 fr, .int .i64 to, .int .i64 tm, .int .i64 0, .int .i64 0, .int .i64 0, .int .i64 0, .int .i64 0, .bool false, .slice none 0 0, .int .i64 0, .int .i64 0, .slice none 0 0] 95 (0, 0))) (hRX : R < X) (H1 : Hid (rdN l (p, e) = (n1, (p1, e1)))) (H2 : Hid (rdT l (p1, e1) = (n2, (p2, e2)))) (H3 : Hid (rdN l (p2, e2) = (n3, (p3, e3)))) :
    Calls Try.prog 95 #[.pointer (some ⟨R, 0, none⟩), .pointer (some ⟨X, 0, none⟩)] w fun r w' => r = .returned (.int .i64 0) ∧ Rr w0 w' R l p3 e3 ∧ w'.heap[X]? = some (.cells #[.int .i64 4, .int .i64 fr, .int .i64 to, .int .i64 tm, .int .i64 (n1 : Int), .int .i64 0, .int .i64 0, .int .i64 (n3 : Int), .int .i64 0, .bool n2, .slice none 0 0, .int .i64 0, .int .i64 0, .slice none 0 0] 95 (0, 0)) ∧ Tn w w' R (.slice (some ⟨X, 0, none⟩) 0 0) := by
  have hXl := (Array.getElem?_eq_some_iff.1 hX).1
  obtain ⟨⟨q0, q1, q2, q3, q4, q5, q6, q7, q8, q9, q10, q11, q12, q13⟩, f0, f1, f2, f3, f4, f5, f6, f7, f8, f9, f10, f11, f12, f13⟩ := cells14 hX
  have HX0 : Hid (w.heap[X]? = some (.cells #[.int .i64 4, .int .i64 fr, .int .i64 to, .int .i64 tm, .int .i64 0, .int .i64 0, .int .i64 0, .int .i64 0, .int .i64 0, .bool false, .slice none 0 0, .int .i64 0, .int .i64 0, .slice none 0 0] 95 (0, 0))) := hX
  have hT0 : w.grownBy w (some R) := grown_refl w _
  clear hX
  go_enter Try.func95, Try.ntmps95
  go_wp2_with fail
  refine (rrIg h H1).mono ?_
  rintro r w1 ⟨rfl, h1, hg1⟩
  have HX1 : Hid (w1.heap[X]? = some (.cells #[.int .i64 4, .int .i64 fr, .int .i64 to, .int .i64 tm, .int .i64 0, .int .i64 0, .int .i64 0, .int .i64 0, .int .i64 0, .bool false, .slice none 0 0, .int .i64 0, .int .i64 0, .slice none 0 0] 95 (0, 0))) := (hg1.block X (by have := hT0.size; omega) (by simp; omega)).trans HX0.out
  have hT1 : w.grownBy w1 (some R) := grown_trans hT0 hg1 (fun k e => .inl e)
  clear hg1
  obtain ⟨⟨q0, q1, q2, q3, q4, q5, q6, q7, q8, q9, q10, q11, q12, q13⟩, f0, f1, f2, f3, f4, f5, f6, f7, f8, f9, f10, f11, f12, f13⟩ := cells14 HX1.out
  go_wp2_with fail
  refine (rrTg h1 H2).mono ?_
  rintro r w2 ⟨rfl, h2, hg2⟩
  have HX2 : Hid (w2.heap[X]? = some (.cells #[.int .i64 4, .int .i64 fr, .int .i64 to, .int .i64 tm, .int .i64 0, .int .i64 0, .int .i64 0, .int .i64 0, .int .i64 0, .bool false, .slice none 0 0, .int .i64 0, .int .i64 0, .slice none 0 0] 95 (0, 0))) := (hg2.block X (by have := hT1.size; omega) (by simp; omega)).trans HX1.out
  have hT2 : w.grownBy w2 (some R) := grown_trans hT1 hg2 (fun k e => .inl e)
  clear hg2
  obtain ⟨⟨q0, q1, q2, q3, q4, q5, q6, q7, q8, q9, q10, q11, q12, q13⟩, f0, f1, f2, f3, f4, f5, f6, f7, f8, f9, f10, f11, f12, f13⟩ := cells14 HX2.out
  go_wp2_with fail
  refine (rrIg h2 H3).mono ?_
  rintro r w3 ⟨rfl, h3, hg3⟩
  have HX3 : Hid (w3.heap[X]? = some (.cells #[.int .i64 4, .int .i64 fr, .int .i64 to, .int .i64 tm, .int .i64 0, .int .i64 0, .int .i64 0, .int .i64 0, .int .i64 0, .bool false, .slice none 0 0, .int .i64 0, .int .i64 0, .slice none 0 0] 95 (0, 0))) := (hg3.block X (by have := hT2.size; omega) (by simp; omega)).trans HX2.out
  have hT3 : w.grownBy w3 (some R) := grown_trans hT2 hg3 (fun k e => .inl e)
  clear hg3
  obtain ⟨⟨q0, q1, q2, q3, q4, q5, q6, q7, q8, q9, q10, q11, q12, q13⟩, f0, f1, f2, f3, f4, f5, f6, f7, f8, f9, f10, f11, f12, f13⟩ := cells14 HX3.out
  have HF1 := (Rr.set (o := 7) (v := (.int .i64 (n3 : Int))) (Rr.set (o := 9) (v := (.bool n2)) (Rr.set (o := 4) (v := (.int .i64 (n1 : Int))) h3 hRX) hRX) hRX)
  have HF2 := (heap_set (heap_set (heap_set HX3.out 4 (.int .i64 (n1 : Int))) 9 (.bool n2)) 7 (.int .i64 (n3 : Int)))
  have HF3 : Tn w _ R (.slice (some ⟨X, 0, none⟩) 0 0) := (Tn.setX (Tn.setX (Tn.setX (Tn.of_grown hT3 (fun k e => .inl (by cases e; rfl))) 4 (.int .i64 (n1 : Int))) 9 (.bool n2)) 7 (.int .i64 (n3 : Int)))
  have HF : Hid (Rr w0 _ R l p3 e3 ∧ _ ∧ Tn w _ R (.slice (some ⟨X, 0, none⟩) 0 0)) := ⟨HF1, HF2, HF3⟩
  clear HF1 HF2 HF3 h3 hT3
  go_wp2
  go_returns
  refine ⟨rfl, HF.out.1, ?_, HF.out.2.2⟩
  exact HF.out.2.1

set_option maxRecDepth 100000 in
set_option maxHeartbeats 8000000 in
theorem getU5_any (fr to tm : Int) {w0 w : World} {R X : Nat} {l : List UInt8} {p e p1 e1 p2 e2 n1 n2 : Nat} (h : Rr w0 w R l p e) (hX : w.heap[X]? = some (.cells #[.int .i64 5, .int .i64 fr, .int .i64 to, .int .i64 tm, .int .i64 0, .int .i64 0, .int .i64 0, .int .i64 0, .int .i64 0, .bool false, .slice none 0 0, .int .i64 0, .int .i64 0, .slice none 0 0] 95 (0, 0))) (hRX : R < X) (H1 : Hid (rdN l (p, e) = (n1, (p1, e1)))) (H2 : Hid (rdN l (p1, e1) = (n2, (p2, e2)))) :
    Calls Try.prog 95 #[.pointer (some ⟨R, 0, none⟩), .pointer (some ⟨X, 0, none⟩)] w fun r w' => r = .returned (.int .i64 0) ∧ Rr w0 w' R l p2 e2 ∧ w'.heap[X]? = some (.cells #[.int .i64 5, .int .i64 fr, .int .i64 to, .int .i64 tm, .int .i64 0, .int .i64 0, .int .i64 (n1 : Int), .int .i64 0, .int .i64 (n2 : Int), .bool false, .slice none 0 0, .int .i64 0, .int .i64 0, .slice none 0 0] 95 (0, 0)) ∧ Tn w w' R (.slice (some ⟨X, 0, none⟩) 0 0) := by
  have hXl := (Array.getElem?_eq_some_iff.1 hX).1
  obtain ⟨⟨q0, q1, q2, q3, q4, q5, q6, q7, q8, q9, q10, q11, q12, q13⟩, f0, f1, f2, f3, f4, f5, f6, f7, f8, f9, f10, f11, f12, f13⟩ := cells14 hX
  have HX0 : Hid (w.heap[X]? = some (.cells #[.int .i64 5, .int .i64 fr, .int .i64 to, .int .i64 tm, .int .i64 0, .int .i64 0, .int .i64 0, .int .i64 0, .int .i64 0, .bool false, .slice none 0 0, .int .i64 0, .int .i64 0, .slice none 0 0] 95 (0, 0))) := hX
  have hT0 : w.grownBy w (some R) := grown_refl w _
  clear hX
  go_enter Try.func95, Try.ntmps95
  go_wp2_with fail
  refine (rrIg h H1).mono ?_
  rintro r w1 ⟨rfl, h1, hg1⟩
  have HX1 : Hid (w1.heap[X]? = some (.cells #[.int .i64 5, .int .i64 fr, .int .i64 to, .int .i64 tm, .int .i64 0, .int .i64 0, .int .i64 0, .int .i64 0, .int .i64 0, .bool false, .slice none 0 0, .int .i64 0, .int .i64 0, .slice none 0 0] 95 (0, 0))) := (hg1.block X (by have := hT0.size; omega) (by simp; omega)).trans HX0.out
  have hT1 : w.grownBy w1 (some R) := grown_trans hT0 hg1 (fun k e => .inl e)
  clear hg1
  obtain ⟨⟨q0, q1, q2, q3, q4, q5, q6, q7, q8, q9, q10, q11, q12, q13⟩, f0, f1, f2, f3, f4, f5, f6, f7, f8, f9, f10, f11, f12, f13⟩ := cells14 HX1.out
  go_wp2_with fail
  refine (rrIg h1 H2).mono ?_
  rintro r w2 ⟨rfl, h2, hg2⟩
  have HX2 : Hid (w2.heap[X]? = some (.cells #[.int .i64 5, .int .i64 fr, .int .i64 to, .int .i64 tm, .int .i64 0, .int .i64 0, .int .i64 0, .int .i64 0, .int .i64 0, .bool false, .slice none 0 0, .int .i64 0, .int .i64 0, .slice none 0 0] 95 (0, 0))) := (hg2.block X (by have := hT1.size; omega) (by simp; omega)).trans HX1.out
  have hT2 : w.grownBy w2 (some R) := grown_trans hT1 hg2 (fun k e => .inl e)
  clear hg2
  obtain ⟨⟨q0, q1, q2, q3, q4, q5, q6, q7, q8, q9, q10, q11, q12, q13⟩, f0, f1, f2, f3, f4, f5, f6, f7, f8, f9, f10, f11, f12, f13⟩ := cells14 HX2.out
  have HF1 := (Rr.set (o := 8) (v := (.int .i64 (n2 : Int))) (Rr.set (o := 6) (v := (.int .i64 (n1 : Int))) h2 hRX) hRX)
  have HF2 := (heap_set (heap_set HX2.out 6 (.int .i64 (n1 : Int))) 8 (.int .i64 (n2 : Int)))
  have HF3 : Tn w _ R (.slice (some ⟨X, 0, none⟩) 0 0) := (Tn.setX (Tn.setX (Tn.of_grown hT2 (fun k e => .inl (by cases e; rfl))) 6 (.int .i64 (n1 : Int))) 8 (.int .i64 (n2 : Int)))
  have HF : Hid (Rr w0 _ R l p2 e2 ∧ _ ∧ Tn w _ R (.slice (some ⟨X, 0, none⟩) 0 0)) := ⟨HF1, HF2, HF3⟩
  clear HF1 HF2 HF3 h2 hT2
  go_wp2
  go_returns
  refine ⟨rfl, HF.out.1, ?_, HF.out.2.2⟩
  exact HF.out.2.1

set_option maxRecDepth 100000 in
set_option maxHeartbeats 8000000 in
theorem getU6_any (fr to tm : Int) {w0 w : World} {R X : Nat} {l : List UInt8} {p e p1 e1 n1 : Nat} (h : Rr w0 w R l p e) (hX : w.heap[X]? = some (.cells #[.int .i64 6, .int .i64 fr, .int .i64 to, .int .i64 tm, .int .i64 0, .int .i64 0, .int .i64 0, .int .i64 0, .int .i64 0, .bool false, .slice none 0 0, .int .i64 0, .int .i64 0, .slice none 0 0] 95 (0, 0))) (hRX : R < X) (H1 : Hid (rdN l (p, e) = (n1, (p1, e1)))) :
    Calls Try.prog 95 #[.pointer (some ⟨R, 0, none⟩), .pointer (some ⟨X, 0, none⟩)] w fun r w' => r = .returned (.int .i64 0) ∧ Rr w0 w' R l p1 e1 ∧ w'.heap[X]? = some (.cells #[.int .i64 6, .int .i64 fr, .int .i64 to, .int .i64 tm, .int .i64 0, .int .i64 0, .int .i64 0, .int .i64 0, .int .i64 (n1 : Int), .bool false, .slice none 0 0, .int .i64 0, .int .i64 0, .slice none 0 0] 95 (0, 0)) ∧ Tn w w' R (.slice (some ⟨X, 0, none⟩) 0 0) := by
  have hXl := (Array.getElem?_eq_some_iff.1 hX).1
  obtain ⟨⟨q0, q1, q2, q3, q4, q5, q6, q7, q8, q9, q10, q11, q12, q13⟩, f0, f1, f2, f3, f4, f5, f6, f7, f8, f9, f10, f11, f12, f13⟩ := cells14 hX
  have HX0 : Hid (w.heap[X]? = some (.cells #[.int .i64 6, .int .i64 fr, .int .i64 to, .int .i64 tm, .int .i64 0, .int .i64 0, .int .i64 0, .int .i64 0, .int .i64 0, .bool false, .slice none 0 0, .int .i64 0, .int .i64 0, .slice none 0 0] 95 (0, 0))) := hX
  have hT0 : w.grownBy w (some R) := grown_refl w _
  clear hX
  go_enter Try.func95, Try.ntmps95
  go_wp2_with fail
  refine (rrIg h H1).mono ?_
  rintro r w1 ⟨rfl, h1, hg1⟩
  have HX1 : Hid (w1.heap[X]? = some (.cells #[.int .i64 6, .int .i64 fr, .int .i64 to, .int .i64 tm, .int .i64 0, .int .i64 0, .int .i64 0, .int .i64 0, .int .i64 0, .bool false, .slice none 0 0, .int .i64 0, .int .i64 0, .slice none 0 0] 95 (0, 0))) := (hg1.block X (by have := hT0.size; omega) (by simp; omega)).trans HX0.out
  have hT1 : w.grownBy w1 (some R) := grown_trans hT0 hg1 (fun k e => .inl e)
  clear hg1
  obtain ⟨⟨q0, q1, q2, q3, q4, q5, q6, q7, q8, q9, q10, q11, q12, q13⟩, f0, f1, f2, f3, f4, f5, f6, f7, f8, f9, f10, f11, f12, f13⟩ := cells14 HX1.out
  have HF1 := (Rr.set (o := 8) (v := (.int .i64 (n1 : Int))) h1 hRX)
  have HF2 := (heap_set HX1.out 8 (.int .i64 (n1 : Int)))
  have HF3 : Tn w _ R (.slice (some ⟨X, 0, none⟩) 0 0) := (Tn.setX (Tn.of_grown hT1 (fun k e => .inl (by cases e; rfl))) 8 (.int .i64 (n1 : Int)))
  have HF : Hid (Rr w0 _ R l p1 e1 ∧ _ ∧ Tn w _ R (.slice (some ⟨X, 0, none⟩) 0 0)) := ⟨HF1, HF2, HF3⟩
  clear HF1 HF2 HF3 h1 hT1
  go_wp2
  go_returns
  refine ⟨rfl, HF.out.1, ?_, HF.out.2.2⟩
  exact HF.out.2.1

end Go.Proofs.Ytfnnbfgfmbiabaa

/-
  What messages of kinds 3 and 7 use, read: the code's.
-/
namespace Go.Proofs.Ytfnnbfgfmbiabaa
open Go.RowKit Go.Shelf

set_option maxRecDepth 100000 in
set_option maxHeartbeats 8000000 in
theorem getU3_any (fr to tm : Int) {w0 w : World} {R X : Nat} {l : List UInt8} {p e p1 e1 p2 e2 p3 e3 p4 e4 n1 n2 n3 n4 : Nat} (h : Rr w0 w R l p e) (hX : w.heap[X]? = some (.cells #[.int .i64 3, .int .i64 fr, .int .i64 to, .int .i64 tm, .int .i64 0, .int .i64 0, .int .i64 0, .int .i64 0, .int .i64 0, .bool false, .slice none 0 0, .int .i64 0, .int .i64 0, .slice none 0 0] 95 (0, 0))) (hRX : R < X) (hl : l.length ≤ 1000000000)
    (H1 : Hid (rdN l (p, e) = (n1, (p1, e1)))) (H2 : Hid (rdN l (p1, e1) = (n2, (p2, e2)))) (H3 : Hid (rdN l (p2, e2) = (n3, (p3, e3)))) (H4 : Hid (rdN l (p3, e3) = (n4, (p4, e4)))) (E : Nat) (hE : E = (if e4 ≠ 0 then e4 else if (64 : Int) < (n4 : Int) then 3 else (rdEs l 8192 n4 (p4, e4)).1 : Nat)) :
    Calls Try.prog 95 #[.pointer (some ⟨R, 0, none⟩), .pointer (some ⟨X, 0, none⟩)] w fun r w' => ∃ va vc es, r = .returned (.int .i64 (E : Int)) ∧ EntsOw w.heap.size w' (.slice va es.length vc) es ∧
      (E = 0 → es.map Ent.says = saysN (rdEs l 8192 n4 (p4, e4)).2.1 ∧ Rr w0 w' R l (rdEs l 8192 n4 (p4, e4)).2.2.1 (rdEs l 8192 n4 (p4, e4)).2.2.2) ∧ w'.heap[X]? = some (.cells #[.int .i64 3, .int .i64 fr, .int .i64 to, .int .i64 tm, .int .i64 (n1 : Int), .int .i64 (n2 : Int), .int .i64 (n3 : Int), .int .i64 0, .int .i64 0, .bool false, .slice va es.length vc, .int .i64 0, .int .i64 0, .slice none 0 0] 95 (0, 0)) ∧ Tn w w' R (.slice (some ⟨X, 0, none⟩) 0 0) := by
  have hXl := (Array.getElem?_eq_some_iff.1 hX).1
  obtain ⟨⟨q0, q1, q2, q3, q4, q5, q6, q7, q8, q9, q10, q11, q12, q13⟩, f0, f1, f2, f3, f4, f5, f6, f7, f8, f9, f10, f11, f12, f13⟩ := cells14 hX
  have HX0 : Hid (w.heap[X]? = some (.cells #[.int .i64 3, .int .i64 fr, .int .i64 to, .int .i64 tm, .int .i64 0, .int .i64 0, .int .i64 0, .int .i64 0, .int .i64 0, .bool false, .slice none 0 0, .int .i64 0, .int .i64 0, .slice none 0 0] 95 (0, 0))) := hX
  have hT0 : w.grownBy w (some R) := grown_refl w _
  have HE : Hid ((if e4 ≠ 0 then e4 else if (64 : Int) < (n4 : Int) then 3 else (rdEs l 8192 n4 (p4, e4)).1 : Nat) = E) := hE.symm
  have HE0 : Hid (E = 0 → e4 = 0 ∧ (n4 : Int) ≤ 64 ∧ (rdEs l 8192 n4 (p4, e4)).1 = 0) := fun h0 => by
    rw [hE] at h0
    by_cases h1 : e4 = 0
    · rw [if_neg (by simpa using h1)] at h0
      by_cases h2 : (64 : Int) < (n4 : Int)
      · rw [if_pos h2] at h0; simp at h0
      · rw [if_neg h2] at h0; exact ⟨h1, by omega, h0⟩
    · rw [if_pos h1] at h0; exact absurd h0 h1
  clear hX hE
  go_enter Try.func95, Try.ntmps95
  go_wp2_with fail
  refine (rrIg h H1).mono ?_
  rintro r w1 ⟨rfl, h1, hg1⟩
  have HX1 : Hid (w1.heap[X]? = some (.cells #[.int .i64 3, .int .i64 fr, .int .i64 to, .int .i64 tm, .int .i64 0, .int .i64 0, .int .i64 0, .int .i64 0, .int .i64 0, .bool false, .slice none 0 0, .int .i64 0, .int .i64 0, .slice none 0 0] 95 (0, 0))) := (hg1.block X (by have := hT0.size; omega) (by simp; omega)).trans HX0.out
  have hT1 : w.grownBy w1 (some R) := grown_trans hT0 hg1 (fun k e => .inl e)
  clear hg1
  obtain ⟨⟨q0, q1, q2, q3, q4, q5, q6, q7, q8, q9, q10, q11, q12, q13⟩, f0, f1, f2, f3, f4, f5, f6, f7, f8, f9, f10, f11, f12, f13⟩ := cells14 HX1.out
  go_wp2_with fail
  refine (rrIg h1 H2).mono ?_
  rintro r w2 ⟨rfl, h2, hg2⟩
  have HX2 : Hid (w2.heap[X]? = some (.cells #[.int .i64 3, .int .i64 fr, .int .i64 to, .int .i64 tm, .int .i64 0, .int .i64 0, .int .i64 0, .int .i64 0, .int .i64 0, .bool false, .slice none 0 0, .int .i64 0, .int .i64 0, .slice none 0 0] 95 (0, 0))) := (hg2.block X (by have := hT1.size; omega) (by simp; omega)).trans HX1.out
  have hT2 : w.grownBy w2 (some R) := grown_trans hT1 hg2 (fun k e => .inl e)
  clear hg2
  obtain ⟨⟨q0, q1, q2, q3, q4, q5, q6, q7, q8, q9, q10, q11, q12, q13⟩, f0, f1, f2, f3, f4, f5, f6, f7, f8, f9, f10, f11, f12, f13⟩ := cells14 HX2.out
  go_wp2_with fail
  refine (rrIg h2 H3).mono ?_
  rintro r w3 ⟨rfl, h3, hg3⟩
  have HX3 : Hid (w3.heap[X]? = some (.cells #[.int .i64 3, .int .i64 fr, .int .i64 to, .int .i64 tm, .int .i64 0, .int .i64 0, .int .i64 0, .int .i64 0, .int .i64 0, .bool false, .slice none 0 0, .int .i64 0, .int .i64 0, .slice none 0 0] 95 (0, 0))) := (hg3.block X (by have := hT2.size; omega) (by simp; omega)).trans HX2.out
  have hT3 : w.grownBy w3 (some R) := grown_trans hT2 hg3 (fun k e => .inl e)
  clear hg3
  obtain ⟨⟨q0, q1, q2, q3, q4, q5, q6, q7, q8, q9, q10, q11, q12, q13⟩, f0, f1, f2, f3, f4, f5, f6, f7, f8, f9, f10, f11, f12, f13⟩ := cells14 HX3.out
  obtain ⟨W3, hW3⟩ : ∃ W3, ((w3.setCell ⟨X, 4, none⟩ (.int .i64 (n1 : Int))).setCell ⟨X, 5, none⟩ (.int .i64 (n2 : Int))).setCell ⟨X, 6, none⟩ (.int .i64 (n3 : Int)) = W3 := ⟨_, rfl⟩
  have hr3 : Rr w0 W3 R l p3 e3 := by rw [← hW3]; exact Rr.set (Rr.set (Rr.set h3 hRX) hRX) hRX
  have HX4 : Hid (W3.heap[X]? = some (.cells #[.int .i64 3, .int .i64 fr, .int .i64 to, .int .i64 tm, .int .i64 (n1 : Int), .int .i64 (n2 : Int), .int .i64 (n3 : Int), .int .i64 0, .int .i64 0, .bool false, .slice none 0 0, .int .i64 0, .int .i64 0, .slice none 0 0] 95 (0, 0))) := by show W3.heap[X]? = _; rw [← hW3]; exact heap_set (heap_set (heap_set HX3.out 4 _) 5 _) 6 _
  have hT4 : Tn w W3 R (.slice (some ⟨X, 0, none⟩) 0 0) := by rw [← hW3]; exact Tn.setX (Tn.setX (Tn.setX (Tn.of_grown hT3 (fun k e => .inl (by cases e; rfl))) 4 _) 5 _) 6 _
  have HW3 : Hid (((w3.setCell ⟨X, 4, none⟩ (.int .i64 (n1 : Int))).setCell ⟨X, 5, none⟩ (.int .i64 (n2 : Int))).setCell ⟨X, 6, none⟩ (.int .i64 (n3 : Int)) = W3) := hW3
  have hz4 := hT4.size
  clear hW3 h3 hT3
  go_wp2_with fail
  rw [HW3.out]
  refine (getAll_any 64 8192 hr3 H4 hl).mono ?_
  rintro r w5 ⟨v, es, rfl, hEo, hcont, hg5⟩
  rw [HE.out]
  have HX5 : Hid (w5.heap[X]? = some (.cells #[.int .i64 3, .int .i64 fr, .int .i64 to, .int .i64 tm, .int .i64 (n1 : Int), .int .i64 (n2 : Int), .int .i64 (n3 : Int), .int .i64 0, .int .i64 0, .bool false, .slice none 0 0, .int .i64 0, .int .i64 0, .slice none 0 0] 95 (0, 0))) := (hg5.block X (by omega) (by simp; omega)).trans HX4.out
  have hT5 : Tn w w5 R (.slice (some ⟨X, 0, none⟩) 0 0) := ⟨hg5.os.trans hT4.os, hg5.tape.trans hT4.tape, hg5.output.trans hT4.output, Nat.le_trans hT4.size hg5.size, fun k hk hR hv => (hg5.block k (by omega) (by simp; exact hR)).trans (hT4.block k hk hR hv)⟩
  obtain ⟨va, vc, rfl⟩ : ∃ va vc, v = .slice va es.length vc := by
    rcases hEo.row.2 with ⟨hv, h0⟩ | ⟨g, cap, cur, hv, r⟩
    · rw [h0]; exact ⟨_, _, hv⟩
    · exact ⟨_, _, hv⟩
  obtain ⟨⟨q0, q1, q2, q3, q4, q5, q6, q7, q8, q9, q10, q11, q12, q13⟩, f0, f1, f2, f3, f4, f5, f6, f7, f8, f9, f10, f11, f12, f13⟩ := cells14 HX5.out
  have HF : Hid (EntsOw w.heap.size (w5.setCell ⟨X, 10, none⟩ (.slice va es.length vc)) (.slice va es.length vc) es ∧ (E = 0 → es.map Ent.says = saysN (rdEs l 8192 n4 (p4, e4)).2.1 ∧ Rr w0 (w5.setCell ⟨X, 10, none⟩ (.slice va es.length vc)) R l (rdEs l 8192 n4 (p4, e4)).2.2.1 (rdEs l 8192 n4 (p4, e4)).2.2.2) ∧ (w5.setCell ⟨X, 10, none⟩ (.slice va es.length vc)).heap[X]? = some (.cells #[.int .i64 3, .int .i64 fr, .int .i64 to, .int .i64 tm, .int .i64 (n1 : Int), .int .i64 (n2 : Int), .int .i64 (n3 : Int), .int .i64 0, .int .i64 0, .bool false, .slice va es.length vc, .int .i64 0, .int .i64 0, .slice none 0 0] 95 (0, 0)) ∧ Tn w (w5.setCell ⟨X, 10, none⟩ (.slice va es.length vc)) R (.slice (some ⟨X, 0, none⟩) 0 0)) := by
    refine ⟨((hEo.base hz4).kept (grown_set w5 X 10 _) hXl), fun h0 => ?_, heap_set HX5.out 10 _, Tn.setX hT5 10 _⟩
    obtain ⟨z1, z2, z3⟩ := HE0.out h0
    obtain ⟨c1, c2⟩ := hcont z1 z2 z3
    exact ⟨c1, Rr.set c2 hRX⟩
  clear hEo hcont hg5 hT5 hT4 hr3 HE HE0
  go_wp2
  go_returns
  exact ⟨va, vc, es, rfl, HF.out⟩

set_option maxRecDepth 100000 in
set_option maxHeartbeats 8000000 in
theorem getU7_any (fr to tm : Int) {w0 w : World} {R X : Nat} {l t : List UInt8} {p e p1 e1 : Nat} (h : Rr w0 w R l p e) (hX : w.heap[X]? = some (.cells #[.int .i64 7, .int .i64 fr, .int .i64 to, .int .i64 tm, .int .i64 0, .int .i64 0, .int .i64 0, .int .i64 0, .int .i64 0, .bool false, .slice none 0 0, .int .i64 0, .int .i64 0, .slice none 0 0] 95 (0, 0))) (hRX : R < X)
    (H1 : Hid (rdB l 1048576 (p, e) = (t, (p1, e1)))) (G : Nat × Nat × List UInt8) (E : Nat) (hG : G = if e1 ≠ 0 then (0, 0, []) else goSnap t) (hE : E = if e1 ≠ 0 then e1 else geSnap t) :
    Calls Try.prog 95 #[.pointer (some ⟨R, 0, none⟩), .pointer (some ⟨X, 0, none⟩)] w fun r w' => ∃ u, r = .returned (.int .i64 (E : Int)) ∧ Ow w.heap.size w' u G.2.2 ∧ Rr w0 w' R l p1 e1 ∧ w'.heap[X]? = some (.cells #[.int .i64 7, .int .i64 fr, .int .i64 to, .int .i64 tm, .int .i64 0, .int .i64 0, .int .i64 0, .int .i64 0, .int .i64 0, .bool false, .slice none 0 0, .int .i64 (G.1 : Int), .int .i64 (G.2.1 : Int), u] 95 (0, 0)) ∧ Tn w w' R (.slice (some ⟨X, 0, none⟩) 0 0) := by
  have hXl := (Array.getElem?_eq_some_iff.1 hX).1
  obtain ⟨⟨q0, q1, q2, q3, q4, q5, q6, q7, q8, q9, q10, q11, q12, q13⟩, f0, f1, f2, f3, f4, f5, f6, f7, f8, f9, f10, f11, f12, f13⟩ := cells14 hX
  have HX0 : Hid (w.heap[X]? = some (.cells #[.int .i64 7, .int .i64 fr, .int .i64 to, .int .i64 tm, .int .i64 0, .int .i64 0, .int .i64 0, .int .i64 0, .int .i64 0, .bool false, .slice none 0 0, .int .i64 0, .int .i64 0, .slice none 0 0] 95 (0, 0))) := hX
  have ho := getOneSnap_any 1048576 h H1 G E hG hE
  clear hX hG hE
  obtain ⟨G0, G1, G2⟩ := G
  simp only at ho ⊢
  go_enter Try.func95, Try.ntmps95
  go_wp2_with fail
  refine ho.mono ?_
  rintro r w1 ⟨u, rfl, hO1, h1, hg1⟩
  obtain ⟨ua, uc, rfl, -, -⟩ := hO1.shape
  have HX1 : Hid (w1.heap[X]? = some (.cells #[.int .i64 7, .int .i64 fr, .int .i64 to, .int .i64 tm, .int .i64 0, .int .i64 0, .int .i64 0, .int .i64 0, .int .i64 0, .bool false, .slice none 0 0, .int .i64 0, .int .i64 0, .slice none 0 0] 95 (0, 0))) := (hg1.block X hXl (by simp; omega)).trans HX0.out
  have hT1 : Tn w w1 R (.slice (some ⟨X, 0, none⟩) 0 0) := Tn.of_grown hg1 (fun k e => .inl (by cases e; rfl))
  obtain ⟨⟨q0, q1, q2, q3, q4, q5, q6, q7, q8, q9, q10, q11, q12, q13⟩, f0, f1, f2, f3, f4, f5, f6, f7, f8, f9, f10, f11, f12, f13⟩ := cells14 HX1.out
  have hO4 := ((hO1.kept (grown_set w1 X 11 (.int .i64 (G0 : Int))) (.inr (hO1.not_at HX1.out (by decide)))))
  have hX2 := heap_set HX1.out 11 (.int .i64 (G0 : Int))
  have hO5 := hO4.kept (grown_set _ X 12 (.int .i64 (G1 : Int))) (.inr (hO4.not_at hX2 (by decide)))
  have hX3 := heap_set hX2 12 (.int .i64 (G1 : Int))
  have hO6 := hO5.kept (grown_set _ X 13 (.slice ua G2.length uc)) (.inr (hO5.not_at hX3 (by decide)))
  have hX4 := heap_set hX3 13 (.slice ua G2.length uc)
  have HF : Hid (_ ∧ _ ∧ _ ∧ _) := ⟨hO6, Rr.set (o := 13) (v := .slice ua G2.length uc) (Rr.set (o := 12) (v := .int .i64 (G1 : Int)) (Rr.set (o := 11) (v := .int .i64 (G0 : Int)) h1 hRX) hRX) hRX, hX4, Tn.setX (Tn.setX (Tn.setX hT1 11 (.int .i64 (G0 : Int))) 12 (.int .i64 (G1 : Int))) 13 (.slice ua G2.length uc)⟩
  clear hO1 hO4 hO5 hO6 hX2 hX3 hX4 hT1 h1 hg1
  go_wp2
  go_returns
  exact ⟨.slice ua G2.length uc, rfl, HF.out⟩

end Go.Proofs.Ytfnnbfgfmbiabaa

