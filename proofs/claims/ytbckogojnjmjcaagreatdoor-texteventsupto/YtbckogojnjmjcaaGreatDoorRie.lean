/-
  A told, an operation among the arguments, and how many letters they hold.
-/
import Derived.Test.YtbckogojnjmjcaaGreatDoorJvr
import Derived.Test.YtbckogojnjmjcaaGreatDoorJed
import Derived.Deep.Slices
namespace Go.Proofs.YtbckogojnjmjcaaGreatDoor
open Go.ChangeShapes Go.WideShapes Go.ChangeAt Go.RowKit
set_option linter.unusedVariables false

theorem cellsOfRe : Tryz.prog.cellsOf 70 = 2 := by kernel_rfl
theorem cellsOfEv : Tryz.prog.cellsOf 74 = 6 := by kernel_rfl
theorem cellsOfOp : Tryz.prog.cellsOf 72 = 10 := by kernel_rfl
theorem cellsOfTo : Tryz.prog.cellsOf 68 = 3 := by kernel_rfl
theorem cellsOfEr : Tryz.prog.cellsOf 24 = 1 := by kernel_rfl
theorem cellsOfBo : Tryz.prog.cellsOf 4 = 1 := by kernel_rfl
theorem cellsOfEs : Tryz.prog.cellsOf 66 = 1 := by kernel_rfl
theorem les2 {α : Type} {cs : List α} (h : cs.length = 2) : ∃ v0 v1, cs = [v0, v1] := by
  match cs, h with
  | [v0, v1], _ => exact ⟨_, _, rfl⟩
theorem les3 {α : Type} {cs : List α} (h : cs.length = 3) : ∃ v0 v1 v2, cs = [v0, v1, v2] := by
  match cs, h with
  | [v0, v1, v2], _ => exact ⟨_, _, _, rfl⟩
theorem les5 {α : Type} {cs : List α} (h : cs.length = 5) : ∃ v0 v1 v2 v3 v4, cs = [v0, v1, v2, v3, v4] := by
  match cs, h with
  | [v0, v1, v2, v3, v4], _ => exact ⟨_, _, _, _, _, rfl⟩
theorem les6 {α : Type} {cs : List α} (h : cs.length = 6) : ∃ v0 v1 v2 v3 v4 v5, cs = [v0, v1, v2, v3, v4, v5] := by
  match cs, h with
  | [v0, v1, v2, v3, v4, v5], _ => exact ⟨_, _, _, _, _, _, rfl⟩
theorem les9 {α : Type} {cs : List α} (h : cs.length = 9) : ∃ v0 v1 v2 v3 v4 v5 v6 v7 v8, cs = [v0, v1, v2, v3, v4, v5, v6, v7, v8] := by
  match cs, h with
  | [v0, v1, v2, v3, v4, v5, v6, v7, v8], _ => exact ⟨_, _, _, _, _, _, _, _, _, rfl⟩
theorem les10 {α : Type} {cs : List α} (h : cs.length = 10) : ∃ v0 v1 v2 v3 v4 v5 v6 v7 v8 v9, cs = [v0, v1, v2, v3, v4, v5, v6, v7, v8, v9] := by
  match cs, h with
  | [v0, v1, v2, v3, v4, v5, v6, v7, v8, v9], _ => exact ⟨_, _, _, _, _, _, _, _, _, _, rfl⟩
theorem underEv : ∃ f0 f1 f2 f3 f4 : Field, Tryz.prog.underlying 74 = some (.struct #[f0, f1, f2, f3, f4]) ∧ (f0.offset = 0 ∧ f1.offset = 1 ∧ f2.offset = 2 ∧ f3.offset = 3 ∧ f4.offset = 4) ∧ f0.type = 3 ∧ f1.type = 3 ∧ f2.type = 3 ∧ f3.type = 3 ∧ f4.type = 70 :=
  ⟨_, _, _, _, _, Tryz.underlying74, ⟨rfl, rfl, rfl, rfl, rfl⟩, rfl, rfl, rfl, rfl, rfl⟩
theorem underOpE : ∃ f0 f1 f2 f3 f4 f5 f6 f7 f8 : Field, Tryz.prog.underlying 72 = some (.struct #[f0, f1, f2, f3, f4, f5, f6, f7, f8]) ∧ (f0.offset = 0 ∧ f1.offset = 1 ∧ f2.offset = 2 ∧ f3.offset = 3 ∧ f4.offset = 4 ∧ f5.offset = 5 ∧ f6.offset = 6 ∧ f7.offset = 7 ∧ f8.offset = 8) ∧ f0.type = 3 ∧ f1.type = 3 ∧ f2.type = 3 ∧ f3.type = 9 ∧ f4.type = 9 ∧ f5.type = 9 ∧ f6.type = 3 ∧ f7.type = 3 ∧ f8.type = 70 :=
  ⟨_, _, _, _, _, _, _, _, _, Tryz.underlying72, ⟨rfl, rfl, rfl, rfl, rfl, rfl, rfl, rfl, rfl⟩, rfl, rfl, rfl, rfl, rfl, rfl, rfl, rfl, rfl⟩
theorem underRe : ∃ f0 f1 : Field, Tryz.prog.underlying 70 = some (.struct #[f0, f1]) ∧ (f0.offset = 0 ∧ f1.offset = 1) ∧ f0.type = 3 ∧ f1.type = 9 :=
  ⟨_, _, Tryz.underlying70, ⟨rfl, rfl⟩, rfl, rfl⟩
theorem underTo : ∃ f0 f1 f2 : Field, Tryz.prog.underlying 68 = some (.struct #[f0, f1, f2]) ∧ (f0.offset = 0 ∧ f1.offset = 1 ∧ f2.offset = 2) ∧ f0.type = 24 ∧ f1.type = 4 ∧ f2.type = 66 :=
  ⟨_, _, _, Tryz.underlying68, ⟨rfl, rfl, rfl⟩, rfl, rfl, rfl⟩
theorem bulk_mem {H : Type} (f : Nat → DataW H) (rs : List (DataW H)) : ∀ (n i : Nat), i < n → Rows.uptoBulk (f i) ≤ Rows.uptoBulkAll ((List.range n).map f) := by
  have app : ∀ xs ys : List (DataW H), Rows.uptoBulkAll (xs ++ ys) = Rows.uptoBulkAll xs + Rows.uptoBulkAll ys := by
    intro xs ys
    induction xs with
    | nil => simp [Rows.uptoBulkAll]
    | cons x xs ih => simp only [List.cons_append, Rows.uptoBulkAll, ih]; omega
  intro n
  induction n with
  | zero => intro i hi; omega
  | succ n ih =>
    intro i hi
    rw [List.range_succ, List.map_append, app]
    rcases Nat.lt_succ_iff_lt_or_eq.1 hi with h | rfl
    · have := ih i h; omega
    · simp only [List.map_cons, List.map_nil, Rows.uptoBulkAll]; omega
set_option maxRecDepth 100000 in
/-- An event that came in. -/
theorem inEv {H : Type} {enc : TypeId × Value → H} {W : World} {n : Nat} {cs : List Value} {x : DataW H × List MemPlace} (hlen : cs.length = 6) (h : DataW.trod enc Tryz.prog W 0 (fun _ => true) true n 74 cs = some x) :
    ∃ e : Ev, cs = e.cells.toList ∧ InZ e.node ∧ InZ e.client ∧ InZ e.number ∧ e.val.length ≤ Rows.uptoBulk x.1 := by
  obtain ⟨f0, f1, f2, f3, f4, hu, ⟨o0, o1, o2, o3, o4⟩, t0, t1, t2, t3, t4⟩ := underEv
  obtain ⟨xs, k, _, hx, _, hxl, hf⟩ := DataW.trod_struct hu h
  obtain ⟨v0, v1, v2, v3, v4, v5, rfl⟩ := les6 hlen
  obtain ⟨y0, y1, y2, y3, y4, rfl⟩ := les5 hxl
  have g0 := hf 0 f0 rfl
  rw [o0, t0, cellsOfI] at g0
  have g1 := hf 1 f1 rfl
  rw [o1, t1, cellsOfI] at g1
  have g2 := hf 2 f2 rfl
  rw [o2, t2, cellsOfI] at g2
  have g3 := hf 3 f3 rfl
  rw [o3, t3, cellsOfI] at g3
  have g4 := hf 4 f4 rfl
  rw [o4, t4, cellsOfRe] at g4
  simp at g0 g1 g2 g3 g4
  obtain ⟨z0, ez0, dz0, lz0⟩ := DataW.trod_int Tryz.underlying3 g0
  simp at ez0
  subst ez0
  have bz0 := bounds_i64 lz0
  obtain ⟨z1, ez1, dz1, lz1⟩ := DataW.trod_int Tryz.underlying3 g1
  simp at ez1
  subst ez1
  have bz1 := bounds_i64 lz1
  obtain ⟨z2, ez2, dz2, lz2⟩ := DataW.trod_int Tryz.underlying3 g2
  simp at ez2
  subst ez2
  have bz2 := bounds_i64 lz2
  obtain ⟨z3, ez3, dz3, lz3⟩ := DataW.trod_int Tryz.underlying3 g3
  simp at ez3
  subst ez3
  have bz3 := bounds_i64 lz3
  obtain ⟨q0, q1, hur, ⟨p0, p1⟩, s0, s1⟩ := underRe
  obtain ⟨xr, kr, _, hxr, _, hxlr, hfr⟩ := DataW.trod_struct hur g4
  obtain ⟨r0, r1, rfl⟩ := les2 hxlr
  have gr0 := hfr 0 q0 rfl
  rw [p0, s0, cellsOfI] at gr0
  have gr1 := hfr 1 q1 rfl
  rw [p1, s1, cellsOfStr] at gr1
  simp at gr0 gr1
  obtain ⟨z4, ez4, dz4, lz4⟩ := DataW.trod_int Tryz.underlying3 gr0
  simp at ez4
  subst ez4
  have bz4 := bounds_i64 lz4
  obtain ⟨z5, ez5, dz5, lz5⟩ := DataW.trod_string Tryz.underlying9 gr1
  simp at ez5
  subst ez5
  refine ⟨⟨z0, z1, z2, z3, z4, z5.data.toList⟩, rfl, ⟨by show _ ≤ z1; omega, by show z1 ≤ _; omega⟩, ⟨by show _ ≤ z2; omega, by show z2 ≤ _; omega⟩, ⟨by show _ ≤ z3; omega, by show z3 ≤ _; omega⟩, ?_⟩
  show z5.data.toList.length ≤ _
  rw [hx, hxr, dz5]
  simp only [List.map_cons, List.map_nil, Rows.uptoBulk, Rows.uptoBulkAll]
  omega
set_option maxRecDepth 100000 in
/-- Events that came in. -/
theorem inEvs {H : Type} {enc : TypeId × Value → H} {W : World} {n : Nat} {v : Value} {x : DataW H × List MemPlace} (h : DataW.trod enc Tryz.prog W 0 (fun _ => true) true n 66 [v] = some x) (hk : Rows.uptoBulk x.1 ≤ 1048576) :
    ∃ (ea : Option Addr) (ec : Nat) (es : List Ev), v = .slice ea es.length ec ∧ EvsAt W.heap.size W ea es ∧ (∀ e ∈ es, EvOk e) ∧ es.length ≤ maxLen := by
  rcases Deep.open_slice Tryz.underlying66 h with ⟨hcs, _⟩ | ⟨x0, l, c, m, n, E, Pl, hcs, _, hl, hm, hmm, hx, hcell⟩
  · simp at hcs
    exact ⟨none, 0, [], hcs, .inl rfl, by simp, by simp⟩
  · simp at hcs
    have hlm : l ≤ maxLen := by omega
    by_cases hz : l = 0
    · subst hz; exact ⟨some x0, c, [], hcs, .inl rfl, by simp, by simp⟩
    · have hml : l ≤ m := by rw [hmm]; split <;> omega
      obtain ⟨b, off, spot⟩ := x0
      have hspot : spot = none := by
        obtain ⟨cs', hc', -⟩ := hcell 0 (by omega)
        rw [cellsOfEv] at hc'
        obtain ⟨_, hlen, hc⟩ := World.cells?_some hc'
        have h00 := hc 0 (by omega)
        rw [List.getElem?_eq_getElem (by omega)] at h00
        simpa [Addr.add] using World.cell?_spot h00
      subst hspot
      have hb : ∀ i, i < l → Rows.uptoBulk (E i) ≤ 1048576 := fun i hi => by
        have h1 := bulk_mem E [] l i hi
        rw [hx] at hk
        simp only [Rows.uptoBulk] at hk
        omega
      have each : ∀ i, i < l → ∃ e : Ev, EAt W b (off + i * 6) e ∧ EvOk e := by
        intro i hi
        obtain ⟨cs', hc', ht⟩ := hcell i (by omega)
        rw [cellsOfEv, Addr.add_lit] at hc'
        obtain ⟨_, hlen, hc⟩ := World.cells?_some hc'
        obtain ⟨o, rfl, h1, h2, h3, h4⟩ := inEv hlen ht
        have hbi := hb i hi
        have c0 := hc 0 (by omega)
        have c1 := hc 1 (by omega)
        have c2 := hc 2 (by omega)
        have c3 := hc 3 (by omega)
        have c4 := hc 4 (by omega)
        have c5 := hc 5 (by omega)
        rw [Addr.add_lit] at c0 c1 c2 c3 c4 c5
        exact ⟨o, ⟨c0, c1, c2, c3, c4, c5⟩, ⟨h1, h2, h3, by have : o.val.length ≤ Rows.uptoBulk (E i) := h4; omega⟩⟩
      have inh : Inhabited Ev := ⟨ev0⟩
      obtain ⟨f, hf⟩ : ∃ f : Nat → Ev, ∀ i, i < l → EAt W b (off + i * 6) (f i) ∧ EvOk (f i) := by
        refine ⟨fun i => if hi : i < l then Classical.choose (each i hi) else default, fun i hi => ?_⟩
        simp only [dif_pos hi]
        exact Classical.choose_spec (each i hi)
      have hlen : ((List.range l).map f).length = l := by simp
      refine ⟨some ⟨b, off, none⟩, c, (List.range l).map f, by rw [hlen]; exact hcs, .inr ⟨b, off, rfl, ?_, fun i hi => ?_⟩, ?_, by rw [hlen]; exact hlm⟩
      · have := cell_lt (hf 0 (by omega)).1.1
        exact this
      · rw [hlen] at hi
        have ho : eat ((List.range l).map f) i = f i := by unfold eat; rw [List.getD_eq_getElem?_getD, List.getElem?_map, List.getElem?_range hi]; rfl
        rw [ho]
        exact (hf i hi).1
      · intro e he
        obtain ⟨i, hi, rfl⟩ := List.mem_map.1 he
        exact (hf i (by simpa using hi)).2
set_option maxRecDepth 100000 in
/-- What an act told, among the arguments. -/
theorem inTold_agg {H : Type} {enc : TypeId × Value → H} {W : World} {base n : Nat} {v : Value} {x : DataW H × List MemPlace} (hv : Value.okWide Tryz.prog W .any base 68 v) (h : DataW.trod enc Tryz.prog W 0 (fun _ => true) true n 68 v.cells.toList = some x) (hk : Rows.uptoBulk x.1 ≤ 1048576) :
    ∃ (err : Int) (did : Bool) (a : Option Addr) (c : Nat) (l : List Ev), v = .agg #[.int .i64 err, .bool did, .slice a l.length c] ∧ InZ err ∧ l.length ≤ maxLen ∧ (∀ e ∈ l, EvOk e) ∧ EvsAt W.heap.size W a l := by
  obtain ⟨cs, rfl, hsz⟩ := okWide_struct Tryz.underlying68 hv
  rw [cellsOfTo] at hsz
  have h' : DataW.trod enc Tryz.prog W 0 (fun _ => true) true n 68 cs.toList = some x := by simpa [Value.cells] using h
  obtain ⟨f0, f1, f2, hu, ⟨o0, o1, o2⟩, t0, t1, t2⟩ := underTo
  obtain ⟨xs, k, _, hx, _, hxl, hf⟩ := DataW.trod_struct hu h'
  obtain ⟨v0, v1, v2, hcs⟩ := les3 (cs := cs.toList) (by simpa using hsz)
  obtain ⟨y0, y1, y2, rfl⟩ := les3 hxl
  rw [hcs] at hf
  have g0 := hf 0 f0 rfl
  rw [o0, t0, cellsOfEr] at g0
  have g1 := hf 1 f1 rfl
  rw [o1, t1, cellsOfBo] at g1
  have g2 := hf 2 f2 rfl
  rw [o2, t2, cellsOfEs] at g2
  simp at g0 g1 g2
  obtain ⟨z0, e0, -, l0⟩ := DataW.trod_int Tryz.underlying24 g0
  simp at e0
  subst e0
  have b0 := bounds_i64 l0
  obtain ⟨z1, e1, -⟩ := DataW.trod_bool Tryz.underlying4 g1
  simp at e1
  subst e1
  obtain ⟨ea, ec, es, rfl, hE, hok, hle⟩ := inEvs g2 (by rw [hx] at hk; simp only [List.map_cons, List.map_nil, Rows.uptoBulk, Rows.uptoBulkAll] at hk; omega)
  refine ⟨z0, z1, ea, ec, es, ?_, ⟨by omega, by omega⟩, hle, hok, hE⟩
  congr 1
  exact Array.toList_inj.1 hcs
set_option maxRecDepth 100000 in
/-- An operation among the arguments. -/
theorem inOp_agg {H : Type} {enc : TypeId × Value → H} {W : World} {base n : Nat} {v : Value} {x : DataW H × List MemPlace} (hv : Value.okWide Tryz.prog W .any base 72 v) (h : DataW.trod enc Tryz.prog W 0 (fun _ => true) true n 72 v.cells.toList = some x) (hk : Rows.uptoBulk x.1 ≤ 1048576) :
    ∃ o : Ox, v = .agg o.cells ∧ OxOk o := by
  obtain ⟨cs, rfl, hsz⟩ := okWide_struct Tryz.underlying72 hv
  rw [cellsOfOp] at hsz
  have h' : DataW.trod enc Tryz.prog W 0 (fun _ => true) true n 72 cs.toList = some x := by simpa [Value.cells] using h
  obtain ⟨f0, f1, f2, f3, f4, f5, f6, f7, f8, hu, ⟨o0, o1, o2, o3, o4, o5, o6, o7, o8⟩, t0, t1, t2, t3, t4, t5, t6, t7, t8⟩ := underOpE
  obtain ⟨xs, k, _, hx, _, hxl, hf⟩ := DataW.trod_struct hu h'
  obtain ⟨v0, v1, v2, v3, v4, v5, v6, v7, v8, v9, hcs⟩ := les10 (cs := cs.toList) (by simpa using hsz)
  obtain ⟨y0, y1, y2, y3, y4, y5, y6, y7, y8, rfl⟩ := les9 hxl
  rw [hcs] at hf
  have g0 := hf 0 f0 rfl
  rw [o0, t0, cellsOfI] at g0
  have g1 := hf 1 f1 rfl
  rw [o1, t1, cellsOfI] at g1
  have g2 := hf 2 f2 rfl
  rw [o2, t2, cellsOfI] at g2
  have g3 := hf 3 f3 rfl
  rw [o3, t3, cellsOfStr] at g3
  have g4 := hf 4 f4 rfl
  rw [o4, t4, cellsOfStr] at g4
  have g5 := hf 5 f5 rfl
  rw [o5, t5, cellsOfStr] at g5
  have g6 := hf 6 f6 rfl
  rw [o6, t6, cellsOfI] at g6
  have g7 := hf 7 f7 rfl
  rw [o7, t7, cellsOfI] at g7
  have g8 := hf 8 f8 rfl
  rw [o8, t8, cellsOfRe] at g8
  simp at g0 g1 g2 g3 g4 g5 g6 g7 g8
  obtain ⟨z0, ez0, dz0, lz0⟩ := DataW.trod_int Tryz.underlying3 g0
  simp at ez0
  subst ez0
  have bz0 := bounds_i64 lz0
  obtain ⟨z1, ez1, dz1, lz1⟩ := DataW.trod_int Tryz.underlying3 g1
  simp at ez1
  subst ez1
  have bz1 := bounds_i64 lz1
  obtain ⟨z2, ez2, dz2, lz2⟩ := DataW.trod_int Tryz.underlying3 g2
  simp at ez2
  subst ez2
  have bz2 := bounds_i64 lz2
  obtain ⟨z3, ez3, dz3, lz3⟩ := DataW.trod_string Tryz.underlying9 g3
  simp at ez3
  subst ez3
  obtain ⟨z4, ez4, dz4, lz4⟩ := DataW.trod_string Tryz.underlying9 g4
  simp at ez4
  subst ez4
  obtain ⟨z5, ez5, dz5, lz5⟩ := DataW.trod_string Tryz.underlying9 g5
  simp at ez5
  subst ez5
  obtain ⟨z6, ez6, dz6, lz6⟩ := DataW.trod_int Tryz.underlying3 g6
  simp at ez6
  subst ez6
  have bz6 := bounds_i64 lz6
  obtain ⟨z7, ez7, dz7, lz7⟩ := DataW.trod_int Tryz.underlying3 g7
  simp at ez7
  subst ez7
  have bz7 := bounds_i64 lz7
  obtain ⟨q0, q1, hur, ⟨p0, p1⟩, s0, s1⟩ := underRe
  obtain ⟨xr, kr, _, hxr, _, hxlr, hfr⟩ := DataW.trod_struct hur g8
  obtain ⟨r0, r1, rfl⟩ := les2 hxlr
  have gr0 := hfr 0 q0 rfl
  rw [p0, s0, cellsOfI] at gr0
  have gr1 := hfr 1 q1 rfl
  rw [p1, s1, cellsOfStr] at gr1
  simp at gr0 gr1
  obtain ⟨z8, ez8, dz8, lz8⟩ := DataW.trod_int Tryz.underlying3 gr0
  simp at ez8
  subst ez8
  have bz8 := bounds_i64 lz8
  obtain ⟨z9, ez9, dz9, lz9⟩ := DataW.trod_string Tryz.underlying9 gr1
  simp at ez9
  subst ez9
  rw [hx, hxr, dz9, dz3, dz4, dz5] at hk
  simp only [List.map_cons, List.map_nil, Rows.uptoBulk, Rows.uptoBulkAll] at hk
  refine ⟨⟨z0, z1, z2, z3.data.toList, z4.data.toList, z5.data.toList, z6, z7, z8, z9.data.toList⟩, ?_, ⟨⟨by show _ ≤ z0; omega, by show z0 ≤ _; omega⟩, ⟨by show _ ≤ z1; omega, by show z1 ≤ _; omega⟩, ⟨by show _ ≤ z6; omega, by show z6 ≤ _; omega⟩, ⟨by show _ ≤ z7; omega, by show z7 ≤ _; omega⟩, by show z3.data.toList.length ≤ _; omega, by show z4.data.toList.length ≤ _; omega, by show z5.data.toList.length ≤ _; omega, by show z9.data.toList.length ≤ _; omega⟩⟩
  congr 1
  exact Array.toList_inj.1 hcs
end Go.Proofs.YtbckogojnjmjcaaGreatDoor
