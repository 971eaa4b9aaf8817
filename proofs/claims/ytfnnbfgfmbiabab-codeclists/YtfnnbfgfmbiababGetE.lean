/-
  Entries read, one behind the other.
-/
import Derived.Test.YtfnnbfgfmbiababGetO
import Derived.Test.YtfnnbfgfmbiababEnt
namespace Go.Proofs.Ytfnnbfgfmbiabab
open Go.RowKit Go.Shelf

/-- An entry as numbers and bytes. -/
def Ent.of (x : Nat × Nat × Nat × List UInt8) (a : Option Addr) (c : Nat) : Ent := ⟨(x.1 : Int), (x.2.1 : Int), (x.2.2.1 : Int), a, c, x.2.2.2⟩
/-- What entries say, of numbers. -/
def saysN (L : List (Nat × Nat × Nat × List UInt8)) : List (Int × Int × Int × List UInt8) := L.map fun x => ((x.1 : Int), (x.2.1 : Int), (x.2.2.1 : Int), x.2.2.2)

/-- As many entries as a number says: the error, the entries, the reader's state. -/
def rdEs (l : List UInt8) (size : Int) : Nat → (Nat × Nat) → Nat × List (Nat × Nat × Nat × List UInt8) × (Nat × Nat)
  | 0, s => (0, [], s)
  | k + 1, s =>
    if (rdB l size s).2.2 ≠ 0 then ((rdB l size s).2.2, [], (rdB l size s).2)
    else if geEntry (rdB l size s).1 ≠ 0 then (geEntry (rdB l size s).1, [], (rdB l size s).2)
    else ((rdEs l size k (rdB l size s).2).1, goEntry (rdB l size s).1 :: (rdEs l size k (rdB l size s).2).2.1, (rdEs l size k (rdB l size s).2).2.2)

/-- The cells of entries. -/
def entCells : List Ent → List Value
  | [] => []
  | e :: r => [.int .i64 e.t, .int .i64 e.i, .int .i64 e.k, e.x] ++ entCells r
theorem entCells_append (a b : List Ent) : entCells (a ++ b) = entCells a ++ entCells b := by
  induction a with
  | nil => rfl
  | cons e r ih => simp [entCells, ih]

/-- Entries of a call's own. -/
structure EntsOw (N : Nat) (w : World) (v : Value) (es : List Ent) : Prop where
  row : w.ownsRow N 26 4 v es.length (entCells es)
  dat : ∀ e ∈ es, Ow N w e.x e.d

theorem EntsOw.nil (N : Nat) (w : World) : EntsOw N w (.slice none 0 0) [] := ⟨World.ownsRow_nil _ _ _ _, by simp⟩
/-- They stay where one block below N, or one that is none of theirs, is turned. -/
theorem EntsOw.kept {N : Nat} {w w' : World} {v : Value} {es : List Ent} {R : Nat} (h : EntsOw N w v es) (hg : w.grownBy w' (some R)) (hR : R < N) : EntsOw N w' v es := by
  refine ⟨h.row.kept hg ?_, fun e he => (h.dat e he).kept hg ?_⟩
  · cases hv : v.ownBlock with
    | none => exact .inl rfl
    | some k => exact .inr (fun e => by cases e; have := (h.row.lt R hv).1; omega)
  · cases hv : e.x.ownBlock with
    | none => exact .inl rfl
    | some k => exact .inr (fun e' => by cases e'; have := (World.ownsRow.lt (h.dat e he) R hv).1; omega)
theorem EntsOw.base {N N' : Nat} {w : World} {v : Value} {es : List Ent} (h : EntsOw N w v es) (hN : N' ≤ N) : EntsOw N' w v es := by
  refine ⟨⟨h.row.1, ?_⟩, fun e he => (h.dat e he).base hN⟩
  rcases h.row.2 with h2 | ⟨g, cap, cur, hv, hg, r⟩
  · exact .inl h2
  · exact .inr ⟨g, cap, cur, hv, by omega, r⟩

theorem cell_four_new (w : World) (a b c d : Value) (t : TypeId) : ∀ j u, [a, b, c, d][j]? = some u → (w.alloc (.cells #[a, b, c, d] t)).cell? ((⟨w.heap.size, 0, none⟩ : Addr).add j) = some u := by
  intro j u hj
  have hh := World.alloc_heap_new w (.cells #[a, b, c, d] t)
  rw [Addr.add_lit]
  simp only [World.cell?, hh, Nat.zero_add]
  simpa using hj

/-- An entry's bytes lie apart from the row of entries. -/
theorem EntsOw.apart {N M : Nat} {w : World} {v u : Value} {es : List Ent} {d : List UInt8} (h : EntsOw N w v es) (hO : Ow M w u d) : u.ownBlock = none ∨ u.ownBlock ≠ v.ownBlock := by
  rcases h.row.2 with ⟨hv, -⟩ | ⟨g, cap, cur, hv, hg, hh, -⟩
  · subst hv
    cases hu : u.ownBlock
    · exact .inl rfl
    · exact .inr (by simp [Value.ownBlock])
  · subst hv
    exact .inr (hO.not_at hh (by decide))

theorem EntsOw.push {N : Nat} {w w' : World} {v v' : Value} {es : List Ent} {e : Ent} (h : EntsOw N w v es) (hO : Ow N w e.x e.d) (hrow : w'.ownsRow N 26 4 v' (es.length + 1) (entCells es ++ [.int .i64 e.t, .int .i64 e.i, .int .i64 e.k, e.x])) (hg : w.grownBy w' v.ownBlock) : EntsOw N w' v' (es ++ [e]) := by
  refine ⟨?_, fun x hx => ?_⟩
  · rw [entCells_append]
    simpa [entCells] using hrow
  · rcases List.mem_append.1 hx with hx | hx
    · exact (h.dat x hx).kept hg (h.apart (h.dat x hx))
    · obtain rfl := List.mem_singleton.1 hx
      exact hO.kept hg (h.apart hO)

theorem EntsOw.alloc {N : Nat} {w : World} {v : Value} {es : List Ent} (h : EntsOw N w v es) (o : Obj) : EntsOw N (w.alloc o) v es := ⟨h.row.alloc o, fun e he => (h.dat e he).alloc o⟩
theorem Rr.grown {w0 w w' : World} {R : Nat} {l : List UInt8} {p e : Nat} {row : Option Nat} (h : Rr w0 w R l p e) (hg : w.grownBy w' row) (hrow : ∀ k, row = some k → R < k) : Rr w0 w' R l p e := by
  cases row with
  | none => exact h.mono ⟨hg.os, hg.tape, hg.output, hg.size, fun k hk => hg.block k hk (by simp)⟩
  | some k =>
    have hk := hrow k rfl
    have hle := h.rdr.le
    exact ⟨h.rdr.kept hg (.inl hk), h.bel.grown hg h.bel.size (fun j e => by cases e; omega), h.len, h.le⟩

theorem rrIg {w0 w : World} {R : Nat} {l : List UInt8} {a e n a' e' : Nat} (h : Rr w0 w R l a e) (hr : Hid (rdN l (a, e) = (n, (a', e')))) :
    Calls Try.prog 67 #[.pointer (some ⟨R, 0, none⟩)] w fun r w' => r = .returned (.int .i64 (n : Int)) ∧ Rr w0 w' R l a' e' ∧ w.grownBy w' (some R) := by
  have hle := rdN_le l (a, e) h.le
  refine (rInt_any _ R l a e w h.rdr h.len h.le).mono ?_
  rintro r w' ⟨rfl, h', hg⟩
  have h2 := hr.out
  rw [h2] at hle
  simp only [rdN, Prod.mk.injEq] at h2
  obtain ⟨rfl, rfl, rfl⟩ := h2
  exact ⟨rfl, h.turn h' hg hle, hg⟩

set_option maxRecDepth 100000 in
set_option maxHeartbeats 1000000 in
theorem getNumberG_any {w0 w : World} {R : Nat} {l : List UInt8} {p e n p' e' : Nat} (h : Rr w0 w R l p e) (hr : Hid (rdN l (p, e) = (n, (p', e')))) :
    Calls Try.prog 66 #[.pointer (some ⟨R, 0, none⟩)] w fun r w' => r = .returned (.tuple #[.int .i64 (n : Int), .int .i64 (e' : Int)]) ∧ Rr w0 w' R l p' e' ∧ w.grownBy w' (some R) := by
  have HF : Hid ((if p < p' then 0 else doneE l p' e') = e') := (fail_num l p e n p' e' hr.out).1
  have HFF : Hid (∀ w', Rr w0 w' R l p' e' → Calls Try.prog 95 #[.pointer (some ⟨R, 0, none⟩), .int .i64 (p : Int)] w' fun r w'' => r = .returned (.int .i64 (e' : Int)) ∧ Below w'.heap.size w' w'') := fun w' h' => by
    have := failure_any p h'
    rw [HF.out] at this
    exact this
  clear HF
  go_enter Try.func66, Try.ntmps66
  go_wp2_with (first
    | (go_at_call 94; refine (rrAt_any h).mono ?_; rintro r w' ⟨rfl, hw⟩; subst w')
    | (go_at_call 67; refine (rrIg h hr).mono ?_; rintro r w1 ⟨rfl, h1, hg1⟩)
    | (go_at_call 95; refine (HFF.out _ h1).mono ?_; rintro r w2 ⟨rfl, hB2⟩))
  go_ret2
  exact ⟨rfl, h1.mono hB2, grown_trans hg1 (Below.grownBy' hB2 none) (by simp)⟩

theorem info24 : (Try.prog.info? 26).map (fun i => (i.zero, i.size, i.bytes)) = some (some (.agg #[.int .i64 0, .int .i64 0, .int .i64 0, .slice none 0 0]), 4, 48) := by kernel_rfl

set_option maxRecDepth 100000 in
set_option maxHeartbeats 8000000 in
theorem getAll_any {w0 w : World} {R : Nat} {l : List UInt8} {p e n p1 e1 : Nat} (most size : Int) (h : Rr w0 w R l p e) (hr : Hid (rdN l (p, e) = (n, (p1, e1)))) (hl : l.length ≤ 1000000000) :
    Calls Try.prog 80 #[.pointer (some ⟨R, 0, none⟩), .iface 31 (.agg #[]), .int .i64 most, .int .i64 size] w fun r w' =>
      ∃ v es, r = .returned (.tuple #[v, .int .i64 ((if e1 ≠ 0 then e1 else if most < (n : Int) then 3 else (rdEs l size n (p1, e1)).1 : Nat) : Int)]) ∧ EntsOw w.heap.size w' v es ∧
        (e1 = 0 → (n : Int) ≤ most → (rdEs l size n (p1, e1)).1 = 0 → es.map Ent.says = saysN (rdEs l size n (p1, e1)).2.1 ∧ Rr w0 w' R l (rdEs l size n (p1, e1)).2.2.1 (rdEs l size n (p1, e1)).2.2.2) ∧ w.grownBy w' (some R) := by
  have hn62 : n ≤ 4611686018427387904 := by
    have := (pk_bd l p e).1
    have h2 := hr.out
    simp only [rdN, Prod.mk.injEq] at h2
    omega
  by_cases he : e1 = 0
  case neg =>
    rw [if_pos he]
    have hke : ((e1 : Int) != 0) = true := by simp; omega
    go_enter Try.func80, Try.ntmps80
    go_wp2_with (go_at_call 66; refine (getNumberG_any h hr).mono ?_; rintro r w1 ⟨rfl, h1, hg1⟩)
    go_ret2
    exact ⟨_, [], rfl, EntsOw.nil _ _, fun h => absurd h he, hg1⟩
  subst he
  rw [if_neg (by simp)]
  by_cases hm : most < (n : Int)
  case pos =>
    rw [if_pos hm]
    go_enter Try.func80, Try.ntmps80
    go_wp2_with (go_at_call 66; refine (getNumberG_any h hr).mono ?_; rintro r w1 ⟨rfl, h1, hg1⟩)
    go_ret2
    exact ⟨_, [], rfl, EntsOw.nil _ _, fun _ h => by omega, hg1⟩
  rw [if_neg hm]
  obtain ⟨X, HX⟩ : ∃ X, Hid (rdEs l size n (p1, 0) = X) := ⟨_, rfl⟩
  rw [HX.out]
  go_enter Try.func80, Try.ntmps80
  go_wp2_with (go_at_call 66; refine (getNumberG_any h hr).mono ?_; rintro r w1 ⟨rfl, h1, hg1⟩)
  obtain ⟨i0, hi, hz0, hz1, hz2⟩ := info_parts info24
  have HRL : Hid (R < w.heap.size) := h.rdr.lt
  have HD : Hid (∀ m s, rdEs l size (m + 1) s = (if (rdB l size s).2.2 ≠ 0 then ((rdB l size s).2.2, [], (rdB l size s).2)
    else if geEntry (rdB l size s).1 ≠ 0 then (geEntry (rdB l size s).1, [], (rdB l size s).2)
    else ((rdEs l size m (rdB l size s).2).1, goEntry (rdB l size s).1 :: (rdEs l size m (rdB l size s).2).2.1, (rdEs l size m (rdB l size s).2).2.2))) := fun m s => rfl
  go_loopw [12, 27] (fun lv iv wr => ∃ (j p2 vc : Nat) (va : Option Addr) (es : List Ent), iv = .int .i64 (j : Int) ∧ lv = .slice va es.length vc ∧ j ≤ n ∧ EntsOw w.heap.size wr (.slice va es.length vc) es ∧ es.length = j ∧ j ≤ p2 ∧ Rr w0 wr R l p2 0 ∧ w.grownBy wr (some R) ∧
      (rdEs l size (n - j) (p2, 0)).1 = X.1 ∧ (rdEs l size (n - j) (p2, 0)).2.2 = X.2.2 ∧ es.map Ent.says ++ saysN (rdEs l size (n - j) (p2, 0)).2.1 = saysN X.2.1) (fun _ iv _ => n - (intOf iv).toNat)
  case atStart => exact ⟨0, p1, 0, none, [], rfl, rfl, Nat.zero_le _, EntsOw.nil _ _, rfl, Nat.zero_le _, h1, hg1, by simp [HX.out], by simp [HX.out], by simp [HX.out]⟩
  case round =>
    obtain ⟨j, p2, vc, va, es, rfl, rfl, hj, hE, hel, hjp, h2, hg2, x1, x2, x3⟩ := hrel
    have HXX : Hid ((rdEs l size (n - j) (p2, 0)).1 = X.1 ∧ (rdEs l size (n - j) (p2, 0)).2.2 = X.2.2 ∧ es.map Ent.says ++ saysN (rdEs l size (n - j) (p2, 0)).2.1 = saysN X.2.1) := ⟨x1, x2, x3⟩
    have HEL : Hid (es.length = j) := hel
    clear x1 x2 x3 hel
    by_cases hlt : j < n
    · obtain ⟨m, hm1⟩ : ∃ m, n - j = m + 1 := ⟨n - j - 1, by omega⟩
      have HM : Hid (n - (j + 1) = m) := by show n - (j + 1) = m; omega
      have hxx := HXX.out
      rw [hm1] at hxx
      obtain ⟨t, p3, e3, H3⟩ : ∃ t p3 e3, Hid (rdB l size (p2, 0) = (t, (p3, e3))) := ⟨_, _, _, rfl⟩
      simp only [HD.out, H3.out] at hxx
      have hone := fun (G : Nat × Nat × Nat × List UInt8) (E : Nat) hG hE => getOneEntry_any size h2 H3 G E hG hE
      clear HXX hm1
      by_cases h3 : e3 = 0
      case neg =>
        have HX1 : Hid (X.1 = e3) := by
          have := hxx.1
          rw [if_pos h3] at this
          exact this.symm
        have hke : ((e3 : Int) != 0) = true := by simp; omega
        have ho := hone (0, 0, 0, []) e3 (by rw [if_pos h3]) (by rw [if_pos h3])
        clear hone hxx
        go_wp2_with (go_at_call 103; refine ho.mono ?_; rintro r w5 ⟨u5, rfl, hO5, h5, hg5⟩; obtain ⟨ua, uc, rfl, -, -⟩ := hO5.shape)
        go_ret2
        exact ⟨_, [], by rw [HX1.out]; rfl, EntsOw.nil _ _, fun _ _ h => absurd (HX1.out.symm.trans h) h3, grown_trans (grown_trans hg2 hg5 (fun k e => .inl e)) (World.grownBy_alloc w5 _ none) (by simp)⟩
      subst h3
      simp only [ne_eq, not_true, if_false] at hxx
      by_cases h4 : geEntry t = 0
      case neg =>
        have HX1 : Hid (X.1 = geEntry t) := by
          have := hxx.1
          rw [if_pos h4] at this
          exact this.symm
        have ho := hone (goEntry t) (geEntry t) (by simp) (by simp)
        obtain ⟨E4, hE4⟩ : ∃ E4, geEntry t = E4 := ⟨_, rfl⟩
        rw [hE4] at ho HX1 h4
        clear hE4
        have hke : ((E4 : Int) != 0) = true := by simp; omega
        clear hone hxx
        obtain ⟨G, hG⟩ : ∃ G, goEntry t = G := ⟨_, rfl⟩
        rw [hG] at ho
        clear hG
        obtain ⟨G0, G1, G2, G3⟩ := G
        simp only at ho
        go_wp2_with (go_at_call 103; refine ho.mono ?_; rintro r w5 ⟨u5, rfl, hO5, h5, hg5⟩; obtain ⟨ua, uc, rfl, -, -⟩ := hO5.shape)
        go_ret2
        exact ⟨_, [], by rw [HX1.out]; rfl, EntsOw.nil _ _, fun _ _ h => absurd (HX1.out.symm.trans h) h4, grown_trans (grown_trans hg2 hg5 (fun k e => .inl e)) (World.grownBy_alloc w5 _ none) (by simp)⟩
      have ho := hone (goEntry t) 0 (by simp) (by simp [h4])
      rw [if_neg (by simpa using h4)] at hxx
      have hp23 : p2 < p3 ∧ p3 ≤ l.length := by
        have hle := rdB_le l size (p2, 0) h2.le
        rw [H3.out] at hle
        simp only at hle
        refine ⟨?_, hle⟩
        have := H3.out
        simp only [rdB, Prod.mk.injEq] at this
        rcases takeAt_cases l p2 0 size with ⟨x, hx, h⟩ | ⟨t', q, hq, h⟩
        · rw [h] at this; exact absurd this.2.2 hx
        · rw [h] at this; simp only at this; omega
      obtain ⟨G, hG⟩ : ∃ G, goEntry t = G := ⟨_, rfl⟩
      rw [hG] at ho hxx
      clear hG
      obtain ⟨G0, G1, G2, G3⟩ := G
      simp only at ho hxx
      have HXN : Hid ((rdEs l size m (p3, 0)).1 = X.1 ∧ (rdEs l size m (p3, 0)).2.2 = X.2.2 ∧ ∀ ua uc, (es ++ [(⟨(G0 : Int), (G1 : Int), (G2 : Int), ua, uc, G3⟩ : Ent)]).map Ent.says ++ saysN (rdEs l size m (p3, 0)).2.1 = saysN X.2.1) := by
        refine ⟨hxx.1, hxx.2.1, fun ua uc => ?_⟩
        have := hxx.2.2
        simp only [saysN, List.map_cons, List.map_append, List.map_nil, Ent.says, List.append_assoc, List.cons_append, List.nil_append] at this ⊢
        exact this
      clear hone hxx
      have HJ : Hid (es.length ≤ 1000000000) := by show es.length ≤ 1000000000; have := HEL.out; omega
      go_wp2_with (first
        | (go_at_call 103; refine ho.mono ?_; rintro r w5 ⟨u5, rfl, hO5, h5, hg5⟩; obtain ⟨ua, uc, rfl, -, -⟩ := hO5.shape)
        | (at_builtin; refine wpList_append_own _ rfl _ _ 22 rfl w.heap.size 26 i0 (.agg #[.int .i64 0, .int .i64 0, .int .i64 0, .slice none 0 0]) 4 48 Try.underlying22 hi hz0 hz1 hz2 rfl (by decide) _ es.length (entCells es) rfl ((((hE.kept hg5 HRL.out).row.alloc _).alloc _)) ⟨w5.heap.size + 1, 0, none⟩ 1 1 [.int .i64 (G0 : Int), .int .i64 (G1 : Int), .int .i64 (G2 : Int), .slice ua G3.length uc] rfl rfl (by simpa using cell_four_new (w5.alloc (.cells #[.int .i64 (G0 : Int), .int .i64 (G1 : Int), .int .i64 (G2 : Int), .slice ua G3.length uc] 26)) _ _ _ _ 26) (by intro u hu; simp at hu; rcases hu with rfl | rfl | rfl | rfl <;> rfl) (by have := HJ.out; unfold maxLen; omega) (by have := HJ.out; omega) (by have := hg2.size; have := hg5.size; simp; omega) ?_; intro v7 w7 hown7 hgrow7 _))
      have hE6 := ((hE.kept hg5 HRL.out).alloc (.cells #[.int .i64 (G0 : Int), .int .i64 (G1 : Int), .int .i64 (G2 : Int), .slice ua G3.length uc] 26)).alloc (.cells #[.int .i64 (G0 : Int), .int .i64 (G1 : Int), .int .i64 (G2 : Int), .slice ua G3.length uc] 26)
      have hO6 := ((hO5.base (N' := w.heap.size) hg2.size).alloc (.cells #[.int .i64 (G0 : Int), .int .i64 (G1 : Int), .int .i64 (G2 : Int), .slice ua G3.length uc] 26)).alloc (.cells #[.int .i64 (G0 : Int), .int .i64 (G1 : Int), .int .i64 (G2 : Int), .slice ua G3.length uc] 26)
      have hE7 := hE6.push (e := ⟨(G0 : Int), (G1 : Int), (G2 : Int), ua, uc, G3⟩) hO6 hown7 hgrow7
      have hgk : ∀ k, (Value.slice va es.length vc).ownBlock = some k → w.heap.size ≤ k := fun k hk => (hE.row.lt k hk).1
      have hB6 : Below w5.heap.size w5 ((w5.alloc (.cells #[.int .i64 (G0 : Int), .int .i64 (G1 : Int), .int .i64 (G2 : Int), .slice ua G3.length uc] 26)).alloc (.cells #[.int .i64 (G0 : Int), .int .i64 (G1 : Int), .int .i64 (G2 : Int), .slice ua G3.length uc] 26)) := (((Below.refl _ w5).alloc (Nat.le_refl _) _).alloc (by simp) _)
      have hR7 := (h5.mono hB6).grown hgrow7 (fun k hk => by have := hgk k hk; have := HRL.out; omega)
      have hG7 : w.grownBy w7 (some R) := grown_trans (grown_trans (grown_trans hg2 hg5 (fun k e => .inl e)) (Below.grownBy' hB6 none) (by simp)) hgrow7 (fun k hk => .inr (hgk k hk))
      have hv7 : ∃ va7 vc7, v7 = .slice va7 (es ++ [(⟨(G0 : Int), (G1 : Int), (G2 : Int), ua, uc, G3⟩ : Ent)]).length vc7 := by
        rcases hE7.row.2 with ⟨hv, h0⟩ | ⟨g, cap, cur, hv, r⟩
        · rw [h0]; exact ⟨_, _, hv⟩
        · exact ⟨_, _, hv⟩
      obtain ⟨va7, vc7, rfl⟩ := hv7
      refine ⟨⟨j + 1, p3, vc7, va7, es ++ [⟨(G0 : Int), (G1 : Int), (G2 : Int), ua, uc, G3⟩], by go_num, rfl, by omega, hE7, by simp [HEL.out], by omega, hR7, hG7, ?_⟩, by simp [intOf]; omega⟩
      rw [HM.out]
      exact ⟨HXN.out.1, HXN.out.2.1, HXN.out.2.2 ua uc⟩
    · have hnj : n - j = 0 := by omega
      have HF : Hid (X.1 = 0 ∧ es.map Ent.says = saysN X.2.1 ∧ Rr w0 wr R l X.2.2.1 X.2.2.2) := by
        obtain ⟨a1, a2, a3⟩ := HXX.out
        rw [hnj] at a1 a2 a3
        simp only [rdEs] at a1 a2 a3
        rw [← a2]
        exact ⟨a1.symm, by simpa [saysN] using a3, h2⟩
      clear hnj
      go_wp2
      go_ret2
      exact ⟨_, es, by rw [HF.out.1]; rfl, hE, fun _ _ _ => HF.out.2, hg2⟩
end Go.Proofs.Ytfnnbfgfmbiabab
