/-
  For all two messages, every cut and every byte the law CodecOne returns true: two messages that may be have one text just if they are the same; no front of a text, and none with a byte behind it, is read; no condition.
-/
import Derived.Test.YtfnnbfgfmbiababKOneW
import Derived.Deep.SlicePairs
namespace Go.Proofs.Ytfnnbfgfmbiabab
open Go.ChangeShapes Go.WideShapes Go.ChangeAt Go.RowKit Go.Shelf
set_option linter.unusedVariables false

theorem cellsOf3 : Try.prog.cellsOf 3 = 1 := by kernel_rfl
theorem cellsOf4 : Try.prog.cellsOf 4 = 1 := by kernel_rfl
theorem cellsOf9 : Try.prog.cellsOf 9 = 1 := by kernel_rfl
theorem cellsOf23 : Try.prog.cellsOf 23 = 1 := by kernel_rfl
theorem list3 {α : Type} {cs : List α} (h : cs.length = 3) : ∃ v0 v1 v2, cs = [v0, v1, v2] := by
  match cs, h with
  | [v0, v1, v2], _ => exact ⟨_, _, _, rfl⟩
theorem under47 : ∃ f0 f1 f2 : Field, Try.prog.underlying 47 = some (.struct #[f0, f1, f2]) ∧ (f0.offset = 0 ∧ f1.offset = 1 ∧ f2.offset = 2) ∧ f0.type = 3 ∧ f1.type = 3 ∧ f2.type = 23 := ⟨_, _, _, Try.underlying47, ⟨rfl, rfl, rfl⟩, rfl, rfl, rfl⟩
theorem cellsOf47 : Try.prog.cellsOf 47 = 3 := by kernel_rfl

/-- One that came in. -/
theorem inSnap {H : Type} {enc : TypeId × Value → H} {W : World} {n : Nat} {cs : List Value} {x : DataW H × List MemPlace} (hlen : cs.length = 3) (h : DataW.trod enc Try.prog W 0 (fun _ => true) true n 47 cs = some x) :
    ∃ (i : Int) (t : Int) (a : Option Addr) (cap : Nat) (m : List UInt8), cs = [.int .i64 i, .int .i64 t, .slice a m.length cap] ∧ Sl W.heap.size W (.slice a m.length cap) m := by
  obtain ⟨f0, f1, f2, hu, ⟨o0, o1, o2⟩, t0, t1, t2⟩ := under47
  obtain ⟨xs, k, _, _, _, hxl, hf⟩ := DataW.trod_struct hu h
  obtain ⟨v0, v1, v2, rfl⟩ := list3 hlen
  obtain ⟨y0, y1, y2, rfl⟩ := list3 hxl
  have g0 := hf 0 f0 rfl
  rw [o0, t0, cellsOf3] at g0
  have g1 := hf 1 f1 rfl
  rw [o1, t1, cellsOf3] at g1
  have g2 := hf 2 f2 rfl
  rw [o2, t2, cellsOf23] at g2
  simp at g0 g1 g2
  obtain ⟨z0, e0, -, -⟩ := DataW.trod_int Try.underlying3 g0
  simp at e0
  subst e0
  obtain ⟨z1, e1, -, -⟩ := DataW.trod_int Try.underlying3 g1
  simp at e1
  subst e1
  obtain ⟨a2, n2, k2, e2, zs, w2⟩ : ∃ a2 n2 k2, v2 = .slice a2 n2 k2 ∧ ∃ zs, IsRow .u8 W a2 n2 k2 zs := by
    rcases open_ints Try.underlying23 Try.underlying5 (by kernel_rfl) g2 with ⟨hcs, _⟩ | ⟨x, l, c, zs, hcs, _, hl, hm, hz, _, hcell, hwz⟩
    · simp at hcs
      exact ⟨none, 0, 0, hcs, [], .inl ⟨rfl, rfl, rfl, rfl⟩⟩
    · simp at hcs
      exact ⟨some x, l, c, hcs, zs, .inr ⟨_, rfl, hl, hm, by simpa using hz, hcell, hwz⟩⟩
  subst e2
  obtain ⟨l, hl, hs⟩ := isRow_sl w2
  subst hl
  exact ⟨z0, z1, a2, k2, l, rfl, hs⟩

theorem list4 {α : Type} {cs : List α} (h : cs.length = 4) : ∃ v0 v1 v2 v3, cs = [v0, v1, v2, v3] := by
  match cs, h with
  | [v0, v1, v2, v3], _ => exact ⟨_, _, _, _, rfl⟩
theorem under26 : ∃ f0 f1 f2 f3 : Field, Try.prog.underlying 26 = some (.struct #[f0, f1, f2, f3]) ∧ (f0.offset = 0 ∧ f1.offset = 1 ∧ f2.offset = 2 ∧ f3.offset = 3) ∧ f0.type = 3 ∧ f1.type = 3 ∧ f2.type = 3 ∧ f3.type = 23 := ⟨_, _, _, _, Try.underlying26, ⟨rfl, rfl, rfl, rfl⟩, rfl, rfl, rfl, rfl⟩
theorem cellsOf26 : Try.prog.cellsOf 26 = 4 := by kernel_rfl

/-- One that came in. -/
theorem inEntry {H : Type} {enc : TypeId × Value → H} {W : World} {n : Nat} {cs : List Value} {x : DataW H × List MemPlace} (hlen : cs.length = 4) (h : DataW.trod enc Try.prog W 0 (fun _ => true) true n 26 cs = some x) :
    ∃ (t : Int) (i : Int) (k : Int) (a : Option Addr) (cap : Nat) (m : List UInt8), cs = [.int .i64 t, .int .i64 i, .int .i64 k, .slice a m.length cap] ∧ Sl W.heap.size W (.slice a m.length cap) m := by
  obtain ⟨f0, f1, f2, f3, hu, ⟨o0, o1, o2, o3⟩, t0, t1, t2, t3⟩ := under26
  obtain ⟨xs, k, _, _, _, hxl, hf⟩ := DataW.trod_struct hu h
  obtain ⟨v0, v1, v2, v3, rfl⟩ := list4 hlen
  obtain ⟨y0, y1, y2, y3, rfl⟩ := list4 hxl
  have g0 := hf 0 f0 rfl
  rw [o0, t0, cellsOf3] at g0
  have g1 := hf 1 f1 rfl
  rw [o1, t1, cellsOf3] at g1
  have g2 := hf 2 f2 rfl
  rw [o2, t2, cellsOf3] at g2
  have g3 := hf 3 f3 rfl
  rw [o3, t3, cellsOf23] at g3
  simp at g0 g1 g2 g3
  obtain ⟨z0, e0, -, -⟩ := DataW.trod_int Try.underlying3 g0
  simp at e0
  subst e0
  obtain ⟨z1, e1, -, -⟩ := DataW.trod_int Try.underlying3 g1
  simp at e1
  subst e1
  obtain ⟨z2, e2, -, -⟩ := DataW.trod_int Try.underlying3 g2
  simp at e2
  subst e2
  obtain ⟨a3, n3, k3, e3, zs, w3⟩ : ∃ a3 n3 k3, v3 = .slice a3 n3 k3 ∧ ∃ zs, IsRow .u8 W a3 n3 k3 zs := by
    rcases open_ints Try.underlying23 Try.underlying5 (by kernel_rfl) g3 with ⟨hcs, _⟩ | ⟨x, l, c, zs, hcs, _, hl, hm, hz, _, hcell, hwz⟩
    · simp at hcs
      exact ⟨none, 0, 0, hcs, [], .inl ⟨rfl, rfl, rfl, rfl⟩⟩
    · simp at hcs
      exact ⟨some x, l, c, hcs, zs, .inr ⟨_, rfl, hl, hm, by simpa using hz, hcell, hwz⟩⟩
  subst e3
  obtain ⟨l, hl, hs⟩ := isRow_sl w3
  subst hl
  exact ⟨z0, z1, z2, a3, k3, l, rfl, hs⟩

theorem cellsOf22 : Try.prog.cellsOf 22 = 1 := by kernel_rfl
theorem list14 {α : Type} {cs : List α} (h : cs.length = 14) : ∃ v0 v1 v2 v3 v4 v5 v6 v7 v8 v9 v10 v11 v12 v13, cs = [v0, v1, v2, v3, v4, v5, v6, v7, v8, v9, v10, v11, v12, v13] := by
  match cs, h with
  | [v0, v1, v2, v3, v4, v5, v6, v7, v8, v9, v10, v11, v12, v13], _ => exact ⟨_, _, _, _, _, _, _, _, _, _, _, _, _, _, rfl⟩
theorem list12 {α : Type} {cs : List α} (h : cs.length = 12) : ∃ v0 v1 v2 v3 v4 v5 v6 v7 v8 v9 v10 v11, cs = [v0, v1, v2, v3, v4, v5, v6, v7, v8, v9, v10, v11] := by
  match cs, h with
  | [v0, v1, v2, v3, v4, v5, v6, v7, v8, v9, v10, v11], _ => exact ⟨_, _, _, _, _, _, _, _, _, _, _, _, rfl⟩
theorem under49 : ∃ f0 f1 f2 f3 f4 f5 f6 f7 f8 f9 f10 f11 : Field, Try.prog.underlying 49 = some (.struct #[f0, f1, f2, f3, f4, f5, f6, f7, f8, f9, f10, f11]) ∧ (f0.offset = 0 ∧ f1.offset = 1 ∧ f2.offset = 2 ∧ f3.offset = 3 ∧ f4.offset = 4 ∧ f5.offset = 5 ∧ f6.offset = 6 ∧ f7.offset = 7 ∧ f8.offset = 8 ∧ f9.offset = 9 ∧ f10.offset = 10 ∧ f11.offset = 11) ∧ f0.type = 3 ∧ f1.type = 3 ∧ f2.type = 3 ∧ f3.type = 3 ∧ f4.type = 3 ∧ f5.type = 3 ∧ f6.type = 3 ∧ f7.type = 3 ∧ f8.type = 3 ∧ f9.type = 4 ∧ f10.type = 22 ∧ f11.type = 47 := ⟨_, _, _, _, _, _, _, _, _, _, _, _, Try.underlying49, ⟨rfl, rfl, rfl, rfl, rfl, rfl, rfl, rfl, rfl, rfl, rfl, rfl⟩, rfl, rfl, rfl, rfl, rfl, rfl, rfl, rfl, rfl, rfl, rfl, rfl⟩
theorem cellsOf49 : Try.prog.cellsOf 49 = 14 := by kernel_rfl

theorem sl_len {N : Nat} {W : World} {v : Value} {l : List UInt8} (h : Sl N W v l) : l.length ≤ 9223372036854775807 := by
  obtain ⟨_, _, _, h1, h2, _⟩ := h
  unfold maxLen at h2
  omega

set_option maxRecDepth 100000 in
/-- Entries that came in. -/
theorem inEntries {H : Type} {enc : TypeId × Value → H} {W : World} {n : Nat} {v : Value} {x : DataW H × List MemPlace} (h : DataW.trod enc Try.prog W 0 (fun _ => true) true n 22 [v] = some x) :
    ∃ (ea : Option Addr) (ec : Nat) (es : List Ent), v = .slice ea es.length ec ∧ EntsAt W.heap.size W ea es ∧ es.length ≤ 9223372036854775807 := by
  rcases Deep.open_slice Try.underlying22 h with ⟨hcs, _⟩ | ⟨x, l, c, m, n, E, Pl, hcs, _, hl, hm, hmm, hx, hcell⟩
  · simp at hcs
    exact ⟨none, 0, [], hcs, .inl rfl, Nat.zero_le _⟩
  · simp at hcs
    have hlm : l ≤ 9223372036854775807 := by have := hm; unfold maxLen at this; omega
    by_cases hz : l = 0
    · subst hz; exact ⟨some x, c, [], hcs, .inl rfl, Nat.zero_le _⟩
    · have hml : l ≤ m := by rw [hmm]; split <;> omega
      obtain ⟨b, off, spot⟩ := x
      have hspot : spot = none := by
        obtain ⟨cs', hc', -⟩ := hcell 0 (by omega)
        rw [cellsOf26] at hc'
        obtain ⟨_, hlen, hc⟩ := World.cells?_some hc'
        have h00 := hc 0 (by omega)
        rw [List.getElem?_eq_getElem (by omega)] at h00
        simpa [Addr.add] using World.cell?_spot h00
      subst hspot
      have each : ∀ i, i < l → ∃ e : Ent, EntAt W.heap.size W b (off + i * 4) e := by
        intro i hi
        obtain ⟨cs', hc', ht⟩ := hcell i (by omega)
        rw [cellsOf26, Addr.add_lit] at hc'
        obtain ⟨_, hlen, hc⟩ := World.cells?_some hc'
        obtain ⟨et, ei, ek, eaa, ecc, ed, rfl, hs⟩ := inEntry hlen ht
        have c0 := hc 0 (by omega)
        have c1 := hc 1 (by omega)
        have c2 := hc 2 (by omega)
        have c3 := hc 3 (by omega)
        rw [Addr.add_lit] at c0 c1 c2 c3
        simp at c0 c1 c2 c3
        exact ⟨⟨et, ei, ek, eaa, ecc, ed⟩, c0, c1, c2, c3, hs⟩
      have inh : Inhabited Ent := ⟨nilEnt⟩
      obtain ⟨D, hD⟩ := Deep.choose_lt each
      have hlt : b < W.heap.size := cell_lt (hD 0 (by omega)).1
      refine ⟨some ⟨b, off, none⟩, c, (List.range l).map D, by simpa using hcs, .inr ⟨b, off, rfl, hlt, fun i hi => ?_⟩, by simpa using hlm⟩
      simp at hi
      rw [show ((List.range l).map D).getD i nilEnt = D i by simp [hi]]
      exact hD i hi

theorem inMsg {H : Type} {enc : TypeId × Value → H} {W : World} {n : Nat} {cs : List Value} {x : DataW H × List MemPlace} (hlen : cs.length = 14) (h : DataW.trod enc Try.prog W 0 (fun _ => true) true n 49 cs = some x) :
    ∃ m : Msg, cs = [.int .i64 m.kd, .int .i64 m.fr, .int .i64 m.to, .int .i64 m.tm, .int .i64 m.ix, .int .i64 m.lt, .int .i64 m.cm, .int .i64 m.hi, .int .i64 m.cx, .bool m.rj, .slice m.ea m.es.length m.ec, .int .i64 m.si, .int .i64 m.st, .slice m.sa m.sd.length m.sc] ∧ m.At W.heap.size W ∧ m.sd.length ≤ 9223372036854775807 ∧ m.es.length ≤ 9223372036854775807 := by
  obtain ⟨f0, f1, f2, f3, f4, f5, f6, f7, f8, f9, f10, f11, hu, ⟨o0, o1, o2, o3, o4, o5, o6, o7, o8, o9, o10, o11⟩, t0, t1, t2, t3, t4, t5, t6, t7, t8, t9, t10, t11⟩ := under49
  obtain ⟨xs, k, _, _, _, hxl, hf⟩ := DataW.trod_struct hu h
  obtain ⟨v0, v1, v2, v3, v4, v5, v6, v7, v8, v9, v10, v11, v12, v13, rfl⟩ := list14 hlen
  obtain ⟨y0, y1, y2, y3, y4, y5, y6, y7, y8, y9, y10, y11, rfl⟩ := list12 hxl
  have g0 := hf 0 f0 rfl
  rw [o0, t0, cellsOf3] at g0
  have g1 := hf 1 f1 rfl
  rw [o1, t1, cellsOf3] at g1
  have g2 := hf 2 f2 rfl
  rw [o2, t2, cellsOf3] at g2
  have g3 := hf 3 f3 rfl
  rw [o3, t3, cellsOf3] at g3
  have g4 := hf 4 f4 rfl
  rw [o4, t4, cellsOf3] at g4
  have g5 := hf 5 f5 rfl
  rw [o5, t5, cellsOf3] at g5
  have g6 := hf 6 f6 rfl
  rw [o6, t6, cellsOf3] at g6
  have g7 := hf 7 f7 rfl
  rw [o7, t7, cellsOf3] at g7
  have g8 := hf 8 f8 rfl
  rw [o8, t8, cellsOf3] at g8
  have g9 := hf 9 f9 rfl
  rw [o9, t9, cellsOf4] at g9
  have g10 := hf 10 f10 rfl
  rw [o10, t10, cellsOf22] at g10
  have g11 := hf 11 f11 rfl
  rw [o11, t11, cellsOf47] at g11
  simp at g0 g1 g2 g3 g4 g5 g6 g7 g8 g9 g10 g11
  obtain ⟨z0, e0, -, -⟩ := DataW.trod_int Try.underlying3 g0
  simp at e0
  subst e0
  obtain ⟨z1, e1, -, -⟩ := DataW.trod_int Try.underlying3 g1
  simp at e1
  subst e1
  obtain ⟨z2, e2, -, -⟩ := DataW.trod_int Try.underlying3 g2
  simp at e2
  subst e2
  obtain ⟨z3, e3, -, -⟩ := DataW.trod_int Try.underlying3 g3
  simp at e3
  subst e3
  obtain ⟨z4, e4, -, -⟩ := DataW.trod_int Try.underlying3 g4
  simp at e4
  subst e4
  obtain ⟨z5, e5, -, -⟩ := DataW.trod_int Try.underlying3 g5
  simp at e5
  subst e5
  obtain ⟨z6, e6, -, -⟩ := DataW.trod_int Try.underlying3 g6
  simp at e6
  subst e6
  obtain ⟨z7, e7, -, -⟩ := DataW.trod_int Try.underlying3 g7
  simp at e7
  subst e7
  obtain ⟨z8, e8, -, -⟩ := DataW.trod_int Try.underlying3 g8
  simp at e8
  subst e8
  obtain ⟨z9, e9, -⟩ := DataW.trod_bool Try.underlying4 g9
  simp at e9
  subst e9
  obtain ⟨ea, ec, es, e10, hE, hel⟩ := inEntries g10
  subst e10
  obtain ⟨si, st, sa, sc, sd, e11, hS⟩ := inSnap rfl g11
  simp at e11
  obtain ⟨rfl, rfl, rfl⟩ := e11
  exact ⟨⟨z0, z1, z2, z3, z4, z5, z6, z7, z8, z9, ea, ec, es, si, st, sa, sc, sd⟩, rfl, ⟨hE, hS⟩, sl_len hS, hel⟩

theorem u8_of {n : Int} (h : (Lit.int .u8 n).wf = true) : ∃ b : UInt8, (b.toNat : Int) = n := by
  have hb : 0 ≤ n ∧ n < 256 := by
    simp [Lit.wf] at h
    rw [show IntKind.u8.min = 0 from rfl, show IntKind.u8.max = 255 from rfl] at h
    omega
  exact ⟨UInt8.ofNat n.toNat, by rw [UInt8.toNat_ofNat']; omega⟩

set_option maxRecDepth 100000 in
theorem codecOne_lifted (os : Os) (started : os.Started) (H : Type) (enc : TypeId × Value → H) :
    ReturnsInHanded {} Try.checked os 6 .any (Rows.codecOneSpec.pre6 enc Try.prog Try.f6 Rows.codecOneRow.domain false) (Rows.codecOneSpec.post enc Try.prog Try.f6 false true false false) := by
  refine returnsInHanded_of_change (C := Try.checked) own started (by kernel_rfl) Try.func6
    (ChangeSpec.witness6 (enc := enc) (C := Try.checked) false ⟨#[], #[.agg #[.int .i64 0, .int .i64 0, .int .i64 0, .int .i64 0, .int .i64 0, .int .i64 0, .int .i64 0, .int .i64 0, .int .i64 0, .bool false, .slice none 0 0, .int .i64 0, .int .i64 0, .slice none 0 0], .agg #[.int .i64 0, .int .i64 0, .int .i64 0, .int .i64 0, .int .i64 0, .int .i64 0, .int .i64 0, .int .i64 0, .int .i64 0, .bool false, .slice none 0 0, .int .i64 0, .int .i64 0, .slice none 0 0], .int .i64 0, .int .u8 0], []⟩ 8 (by kernel_rfl) (by kernel_rfl) (by kernel_rfl) (by kernel_rfl)) ?_
  intro W base args ds gs before hval0 hW hcnd _
  have hval : ∀ (j : Nat) t v, Try.f6.params[j]? = some t → args[j]? = some v → Value.okWide Try.prog W .any base t v := hval0
  have hW' := hW
  obtain ⟨p, q, hA0, hV, rfl, hfz, hnd⟩ := hW
  have hA : DataW.TrodAll enc Try.prog W 0 (fun _ => true) true Try.f6.params.toList args.toList ds p := hA0
  rw [Try.params6] at hA hval
  obtain ⟨v0, vs0, d0, ds0, p0, q0, hargs, rfl, rfl, h0, r0⟩ := trodAll_cons hA
  obtain ⟨v1, vs1, d1, ds1, p1, q1, rfl, rfl, rfl, h1, r1⟩ := trodAll_cons r0
  obtain ⟨v2, vs2, d2, ds2, p2, q2, rfl, rfl, rfl, h2, r2⟩ := trodAll_cons r1
  obtain ⟨v3, vs3, d3, ds3, p3, q3, rfl, rfl, rfl, h3, r3⟩ := trodAll_cons r2
  obtain ⟨rfl, rfl, rfl⟩ := trodAll_nil r3
  obtain rfl : args = #[v0, v1, v2, v3] := by cases args; simp_all
  obtain ⟨rfl, rfl⟩ := trodVars_none hV
  have k0 := h0
  have lt0 : ∀ x ∈ p0, x.block < W.heap.size := by obtain ⟨m, hm⟩ := k0; exact DataW.trod_lt m _ _ _ hm
  have k1 := h1
  have lt1 : ∀ x ∈ p1, x.block < W.heap.size := by obtain ⟨m, hm⟩ := k1; exact DataW.trod_lt m _ _ _ hm
  obtain ⟨cs0, rfl, hsz0⟩ := okWide_struct Try.underlying49 (hval 0 49 v0 rfl rfl)
  obtain ⟨cs1, rfl, hsz1⟩ := okWide_struct Try.underlying49 (hval 1 49 v1 rfl rfl)
  rw [cellsOf49] at hsz0 hsz1
  obtain ⟨fuel0, hf0⟩ := h0
  obtain ⟨m, hcs0, hx, hsx, hex⟩ := inMsg (by simpa [Value.cells] using hsz0) hf0
  obtain rfl : cs0 = #[.int .i64 m.kd, .int .i64 m.fr, .int .i64 m.to, .int .i64 m.tm, .int .i64 m.ix, .int .i64 m.lt, .int .i64 m.cm, .int .i64 m.hi, .int .i64 m.cx, .bool m.rj, .slice m.ea m.es.length m.ec, .int .i64 m.si, .int .i64 m.st, .slice m.sa m.sd.length m.sc] := by
    have := congrArg List.toArray hcs0
    simpa [Value.cells] using this
  obtain ⟨fuel1, hf1⟩ := h1
  obtain ⟨n, hcs1, hy, hsy, hey⟩ := inMsg (by simpa [Value.cells] using hsz1) hf1
  obtain rfl : cs1 = #[.int .i64 n.kd, .int .i64 n.fr, .int .i64 n.to, .int .i64 n.tm, .int .i64 n.ix, .int .i64 n.lt, .int .i64 n.cm, .int .i64 n.hi, .int .i64 n.cx, .bool n.rj, .slice n.ea n.es.length n.ec, .int .i64 n.si, .int .i64 n.st, .slice n.sa n.sd.length n.sc] := by
    have := congrArg List.toArray hcs1
    simpa [Value.cells] using this
  obtain ⟨cut, rfl, rfl, rfl, w2⟩ := open_int Try.underlying3 (hval 2 3 v2 rfl rfl) h2
  obtain ⟨mo, rfl, rfl, rfl, w3⟩ := open_int Try.underlying5 (hval 3 5 v3 rfl rfl) h3
  obtain ⟨more, rfl⟩ := u8_of w3
  clear hA0 hval0
  refine (codecOne_walk m n cut more W hx hsx hex hy hsy hey).mono fun e W' ⟨he, bel⟩ => ?_
  subst he
  exact ⟨_, rfl, _, _, _, [], _, [], hW', trodAll_mk1 (shut_bool Try.underlying4 _), (trodAll_cons_mk (Below.trod laidOut (by kernel_rfl) (of_decide_eq_true (by kernel_rfl)) k0 bel lt0) (trodAll_cons_mk (Below.trod laidOut (by kernel_rfl) (of_decide_eq_true (by kernel_rfl)) k1 bel lt1) (trodAll_cons_mk (shut_int Try.underlying3 w2) (trodAll_cons_mk (shut_int Try.underlying5 w3) trodAll_mk0)))), rfl, bel.frame _, fun h => by cases h⟩

theorem codecOne_holds : Rows.CodecOneSaid :=
  OpenClaim.holds_of_wide 6 Try.f6 rfl rfl rfl rfl rfl rfl rfl ⟨rfl, rfl, rfl, rfl, rfl⟩ rfl rfl rfl rfl rfl (by kernel_rfl) Try.func6 (by kernel_rfl)
    (of_decide_eq_true (by kernel_rfl)) (by unfold Func.isWrapper; first | (rw [if_pos (by decide +kernel)]; kernel_rfl) | (rw [if_neg (by decide +kernel)]; exact ⟨rfl, rfl⟩))
    (fun os started H enc _ => codecOne_lifted os started H enc)
#print axioms codecOne_holds
end Go.Proofs.Ytfnnbfgfmbiabab
