/-
  does, of any operation; LogPlays. Operations that came in, of the form's reach.
-/
import Derived.Test.YteekpfgjpdopmaaJdl
import Derived.Test.YteekpfgjpdopmaaJdk
import Derived.Test.YteekpfgjpdopmaaFi
import Derived.Test.YteekpfgjpdopmaaFw
import Derived.Test.YteekpfgjpdopmaaRio
import Derived.SizedLaws
namespace Go.Proofs.Yteekpfgjpdopmaa
open Go.RowKit
set_option linter.unusedVariables false

/-- An operation that the form reaches. -/
def OpnIn (o : Opn) : Prop := o.n ≤ 9223372036854775807 ∧ o.bd.length ≤ 140737488351232
theorem does_any {N : Nat} {S T : Nat → Prop} {w : World} {b d : Nat} {P : PL} (h : Bw N S T w b d P P) (M : Nat) (o : Opn) (hE : EntsAt M w o.ea o.es) (hS : Sl M w (.slice o.ba o.bd.length o.bc) o.bd) (hM : M ≤ N) (hn : o.es.length ≤ 1000000) (h1 : o.es.length ≤ o.ec) (h2 : o.ec ≤ maxLen) (hi : OpnIn o) :
    Calls Try.prog 14 #[.pointer (some ⟨b, 0, none⟩), .pointer (some ⟨d, 0, none⟩), .agg #[.int .i64 o.kd, .int .i64 o.n, .int .i64 o.tm, .int .i64 o.m, .slice o.ea o.es.length o.ec, .slice o.ba o.bd.length o.bc]] w fun e w' => Dn8 N w b d e w' := by
  obtain ⟨k, n, t, m, ea, ec, es, ba, bc, bd⟩ := o
  dsimp only at hE hS hn h1 h2 ⊢
  obtain ⟨i1, i2⟩ := hi
  dsimp only at i1 i2
  by_cases k0 : k = 0
  · subst k0; exact does0_any h n t m ea es.length ec ba bc bd M hS hM i2
  by_cases k1 : k = 1
  · subst k1; exact does1_any h n t m ea ec es M hE hM hn h1 h2 ba bd.length bc
  by_cases k2 : k = 2
  · subst k2; exact does2_any h n t m ea es.length ec ba bd.length bc
  by_cases k3 : k = 3
  · subst k3; exact does3_any h n t m ea es.length ec ba bd.length bc
  by_cases k4 : k = 4
  · subst k4; exact does4_any h n t m ea es.length ec ba bd.length bc
  by_cases k5 : k = 5
  · subst k5; exact does5_any h n t m ea es.length ec ba bd.length bc
  by_cases k6 : k = 6
  · subst k6; exact does6_any h n t m ea es.length ec ba bd.length bc
  by_cases k7 : k = 7
  · subst k7; exact does7_any h n t m ea es.length ec ba bd.length bc
  by_cases k8 : k = 8
  · subst k8; exact does8_any h n t m ea es.length ec ba bd.length bc
  exact does9_any h n t m ea es.length ec ba bd.length bc k i1 k0 k1 k2 k3 k4 k5 k6 k7 k8

theorem rnew_any (w : World) : Calls Try.prog 12 #[.int .i64 0, .int .i64 0, .int .i64 0, .slice none 0 0] w fun e w' => ∃ b S, e = .returned (.tuple #[.pointer (some ⟨b, 0, none⟩), .int .i64 0]) ∧ Rg w.heap.size S w' b P0 ∧ Below w.heap.size w w' := by
  have := RNew_any 0 0 0 none 0 [] 0 w (.inl rfl) (Nat.zero_le _) (by simp)
  rw [List.map_nil, P0_new.2] at this
  refine this.mono ?_
  rintro e w' ⟨hB, ⟨hne, -⟩ | ⟨-, b, S, rfl, hR⟩⟩
  · exact absurd P0_new.1 hne
  · exact ⟨b, S, rfl, hR, hB⟩

set_option maxRecDepth 100000 in
set_option maxHeartbeats 8000000 in
theorem plays_walk (N : Nat) (oa : Option Addr) (oc : Nat) (l : List Opn) (w : World) (hO : OpsAt N w oa l) (hN : N ≤ w.heap.size) (hl : l.length ≤ 9223372036854775807) (hI : ∀ i, i < l.length → OpnIn (l.getD i nilOpn)) :
    Calls Try.prog 3 #[.slice oa l.length oc] w fun e w' => e = .returned (.bool true) ∧ Below w.heap.size w w' := by
  have hf := first_any w
  have HO : Hid (OpsAt N w oa l) := hO
  have HI : Hid (∀ i, i < l.length → OpnIn (l.getD i nilOpn)) := hI
  clear hO hI
  go_enter Try.func3, Try.ntmps3
  go_wp2_with fail
  refine hf.mono ?_
  rintro e w1 ⟨rfl, hB1⟩
  have HB1 : Hid (Below w.heap.size w w1) := hB1
  clear hB1 hf
  go_wp2_with fail
  refine (few_any oa oc l N w1 (HO.out.below (HB1.out.mono hN)) (Nat.le_trans hN HB1.out.size) hl).mono ?_
  rintro e w' ⟨sm, rfl, hsm, hw⟩
  subst w'
  have HSM : Hid (Few l sm) := hsm
  clear hsm
  cases sm with
  | false =>
    go_wp2
    go_ret
    exact ⟨rfl, HB1.out⟩
  | true =>
  go_wp2_with fail
  refine (new_any w1).mono ?_
  rintro e w2 ⟨b, S, rfl, hL, hB2⟩
  have HL2 : Hid (Lg w1.heap.size S w2 b P0) := hL
  have HB2 : Hid (Below w1.heap.size w1 w2) := hB2
  have hlen : l.length ≤ 300 := (HSM.out rfl).1
  have HES : Hid (∀ k, k < l.length → (l.getD k nilOpn).es.length ≤ 64) := (HSM.out rfl).2
  clear hL hB2 HSM
  go_wp2_with fail
  refine (rnew_any w2).mono ?_
  rintro e w3 ⟨d, T, rfl, hR, hB3⟩
  have HBw : Hid (Bw w1.heap.size S T w3 b d P0 P0) := Bw.make HL2.out HB2.out hR hB3
  have HB3 : Hid (Below w1.heap.size w1 w3) := HB2.out.trans (hB3.mono HB2.out.size)
  clear hR hB3 HL2 HB2
  go_wp2_with (first | (go_at_call 13; refine (num_any _ _).mono ?_; rintro r wz ⟨rfl, hz⟩; subst wz) | fail)
  have HNW : Hid (N ≤ w1.heap.size) := Nat.le_trans hN HB1.out.size
  go_loopw [9] (fun iv wr => ∃ (k : Nat), iv = .int .i64 (k : Int) ∧ k ≤ l.length ∧ (∃ S' T' P, Bw w1.heap.size S' T' wr b d P P) ∧ Below w1.heap.size w1 wr) (fun iv _ => l.length - (intOf iv).toNat)
  case atStart => exact ⟨0, rfl, Nat.zero_le _, ⟨S, T, P0, HBw.out⟩, HB3.out⟩
  case round =>
    obtain ⟨k, rfl, hk, ⟨S', T', P, hW⟩, hB⟩ := hrel
    have HW : Hid (Bw w1.heap.size S' T' wr b d P P) := hW
    have HB : Hid (Below w1.heap.size w1 wr) := hB
    clear hW hB HBw HB3
    by_cases hlt : k < l.length
    · obtain ⟨g, off, hoa, hgN, hop⟩ := (HO.out.below (HB1.out.mono hN)).at hlt
      subst hoa
      have hop' := hop.below hgN (HB.out.mono HNW.out)
      have HDO : Hid (Calls _ _ _ _ _) := does_any HW.out N (l.getD k nilOpn) hop'.2.1 hop'.2.2.1 HNW.out (by have := HES.out k hlt; omega) hop'.2.2.2.1 hop'.2.2.2.2 (HI.out k hlt)
      obtain ⟨⟨c0, c1, c2, c3, c4, c5⟩, -, -, -, -⟩ := hop'
      have hgw : g < wr.heap.size := by have := HB.out.size; have := HNW.out; omega
      have i0 : (0 : Int) ≤ (k : Int) := by omega
      have i1 : (k : Int) < (l.length : Int) := by omega
      have hwk : IntKind.i64.wrap ((k : Int) + 1) = ((k + 1 : Nat) : Int) := by rw [IntKind.wrap_i64]; omega
      generalize l.getD k nilOpn = o at *
      clear hop
      go_wp2_with fail
      refine HDO.out.mono ?_
      rintro r w4 ⟨S4, T4, P4, rfl, hW4, hB4⟩
      have HW4 : Hid (Bw w1.heap.size S4 T4 w4 b d P4 P4) := hW4
      have HB4 : Hid (Below w1.heap.size w1 w4) := HB.out.trans hB4
      clear hW4 hB4 HDO HW HB c0 c1 c2 c3 c4 c5
      go_wp2_with fail
      refine (same8_any HW4.out).mono ?_
      rintro r w5 ⟨rfl, hB5⟩
      have HW5 : Hid (Bw w1.heap.size S4 T4 w5 b d P4 P4) := HW4.out.below hB5
      have HB5 : Hid (Below w1.heap.size w1 w5) := HB4.out.trans (hB5.mono HB4.out.size)
      clear hB5 HW4 HB4
      go_wp2
      exact ⟨⟨k + 1, by first | go_num | simp, by omega, ⟨S4, T4, P4, HW5.out⟩, HB5.out⟩, by simp [intOf]; omega⟩
    · have hlt' : ¬ (k : Int) < (l.length : Int) := by omega
      go_wp2
      go_ret
      exact ⟨rfl, HB1.out.trans (HB.out.mono HB1.out.size)⟩
end Go.Proofs.Yteekpfgjpdopmaa
namespace Go.Proofs.Yteekpfgjpdopmaa
open Go.ChangeShapes Go.WideShapes Go.ChangeAt Go.RowKit
set_option linter.unusedVariables false

theorem mem_weightsAll {H : Type} {P : Program} {e : TypeId} {d : DataW H} : ∀ {l : List (DataW H)}, d ∈ l → ∀ {m : Nat}, m ∈ d.weights P e → m ∈ DataW.weightsAll P e l
  | [], h, _, _ => by simp at h
  | x :: r, h, m, hm => by
    simp only [DataW.weightsAll, List.mem_append]
    rcases List.mem_cons.1 h with rfl | h
    · exact .inl hm
    · exact .inr (mem_weightsAll h hm)

set_option maxRecDepth 100000 in
/-- Bytes that came in. -/
theorem inBytesB {H : Type} {enc : TypeId × Value → H} {W : World} {n : Nat} {v : Value} {x : DataW H × List MemPlace} (hw : ∀ m ∈ x.1.weights Try.prog 35, m ≤ reachBytes) (h : DataW.trod enc Try.prog W 0 (fun _ => true) true n 35 [v] = some x) :
    ∃ (a : Option Addr) (c : Nat) (l : List UInt8), v = .slice a l.length c ∧ Sl W.heap.size W (.slice a l.length c) l ∧ l.length ≤ 140737488351232 := by
  obtain ⟨a4, n4, k4, e4, ⟨zs, w4⟩, hn4⟩ : ∃ a4 n4 k4, v = .slice a4 n4 k4 ∧ (∃ zs, IsRow .u8 W a4 n4 k4 zs) ∧ n4 ≤ 140737488351232 := by
    rcases open_ints Try.underlying35 Try.underlying5 (by kernel_rfl) h with ⟨hcs, _⟩ | ⟨x, l, c, zs, hcs, _, hl, hm, hz, hxz, hcell, hwz⟩
    · simp at hcs
      exact ⟨none, 0, 0, hcs, ⟨[], .inl ⟨rfl, rfl, rfl, rfl⟩⟩, Nat.zero_le _⟩
    · simp at hcs
      refine ⟨some x, l, c, hcs, ⟨zs, .inr ⟨_, rfl, hl, hm, by simpa using hz, hcell, hwz⟩⟩, ?_⟩
      have hb5 : Try.prog.bytesOf 5 = 1 := by kernel_rfl
      have h9 := hw ((lits .u8 (zs.take l)).length + (lits .u8 (zs.drop l)).length) (by
        rw [hxz]
        simp only [DataW.weights, Try.underlying35, hb5, Nat.mul_one]
        exact List.mem_cons_self)
      have h8 : (lits (H := H) .u8 (zs.take l)).length = l := by
        have hzl : l ≤ zs.length := by simp at hz; omega
        simp [lits]
        omega
      rw [h8] at h9
      unfold reachBytes at h9
      omega
  subst e4
  obtain ⟨l, hl, hs⟩ := isRow_sl w4
  subst hl
  exact ⟨a4, k4, l, rfl, hs, hn4⟩

set_option maxRecDepth 100000 in
/-- An operation that came in. -/
theorem inOpB {H : Type} {enc : TypeId × Value → H} {W : World} {n : Nat} {cs : List Value} {x : DataW H × List MemPlace} (hlen : cs.length = 6) (hw : ∀ m ∈ x.1.weights Try.prog 37, m ≤ reachBytes) (h : DataW.trod enc Try.prog W 0 (fun _ => true) true n 37 cs = some x) :
    ∃ o : Opn, cs = [.int .i64 o.kd, .int .i64 o.n, .int .i64 o.tm, .int .i64 o.m, .slice o.ea o.es.length o.ec, .slice o.ba o.bd.length o.bc] ∧ EntsAt W.heap.size W o.ea o.es ∧ Sl W.heap.size W (.slice o.ba o.bd.length o.bc) o.bd ∧ (o.es.length ≤ o.ec ∧ o.ec ≤ maxLen) ∧ OpnIn o := by
  obtain ⟨f0, f1, f2, f3, f4, f5, hu, ⟨o0, o1, o2, o3, o4, o5⟩, t0, t1, t2, t3, t4, t5⟩ := underO
  obtain ⟨xs, k, _, hxy, _, hxl, hf⟩ := DataW.trod_struct hu h
  obtain ⟨v0, v1, v2, v3, v4, v5, rfl⟩ := list6 hlen
  obtain ⟨y0, y1, y2, y3, y4, y5, rfl⟩ := list6 hxl
  have hw5 : ∀ m ∈ y5.1.weights Try.prog 35, m ≤ reachBytes := fun m hm => by
    refine hw m ?_
    rw [hxy]
    simp only [DataW.weights, hu]
    have e : (#[f0, f1, f2, f3, f4, f5] : Array Field).toList.map (·.type) = [3, 3, 3, 3, 34, 35] := by simp [t0, t1, t2, t3, t4, t5]
    rw [e]
    simp only [List.map_cons, List.map_nil, DataW.weightsEach, List.mem_append]
    exact .inr (.inr (.inr (.inr (.inr (.inl hm)))))
  have g0 := hf 0 f0 rfl
  rw [o0, t0, cellsOfI] at g0
  have g1 := hf 1 f1 rfl
  rw [o1, t1, cellsOfI] at g1
  have g2 := hf 2 f2 rfl
  rw [o2, t2, cellsOfI] at g2
  have g3 := hf 3 f3 rfl
  rw [o3, t3, cellsOfI] at g3
  have g4 := hf 4 f4 rfl
  rw [o4, t4, cellsOfEs] at g4
  have g5 := hf 5 f5 rfl
  rw [o5, t5, cellsOfB] at g5
  simp at g0 g1 g2 g3 g4 g5
  obtain ⟨z0, e0, -, -⟩ := DataW.trod_int Try.underlying3 g0
  simp at e0
  subst e0
  obtain ⟨z1, e1, -, hb1⟩ := DataW.trod_int Try.underlying3 g1
  simp at e1
  subst e1
  obtain ⟨z2, e2, -, -⟩ := DataW.trod_int Try.underlying3 g2
  simp at e2
  subst e2
  obtain ⟨z3, e3, -, -⟩ := DataW.trod_int Try.underlying3 g3
  simp at e3
  subst e3
  obtain ⟨ea, ec, es, rfl, hE, h1, h2⟩ := inEnts g4
  obtain ⟨a, c, l, rfl, hs, hn5⟩ := inBytesB hw5 g5
  exact ⟨⟨z0, z1, z2, z3, ea, ec, es, a, c, l⟩, rfl, hE, hs, ⟨h1, h2⟩, by have := bounds_i64 hb1; show z1 ≤ _; omega, hn5⟩

set_option maxRecDepth 100000 in
/-- Operations that came in. -/
theorem inOpsB {H : Type} {enc : TypeId × Value → H} {W : World} {n : Nat} {v : Value} {x : DataW H × List MemPlace} (hw : ∀ m ∈ x.1.weights Try.prog 22, m ≤ reachBytes) (h : DataW.trod enc Try.prog W 0 (fun _ => true) true n 22 [v] = some x) :
    ∃ (ea : Option Addr) (ec : Nat) (es : List Opn), v = .slice ea es.length ec ∧ OpsAt W.heap.size W ea es ∧ es.length ≤ ec ∧ ec ≤ maxLen ∧ ∀ i, i < es.length → OpnIn (es.getD i nilOpn) := by
  rcases Deep.open_slice Try.underlying22 h with ⟨hcs, _⟩ | ⟨x, l, c, m, n, E, Pl, hcs, _, hl, hm, hmm, hx, hcell⟩
  · simp at hcs
    exact ⟨none, 0, [], hcs, .inl rfl, Nat.le_refl _, by unfold maxLen; omega, fun i hi => by simp at hi⟩
  · simp at hcs
    by_cases hz : l = 0
    · subst hz; exact ⟨some x, c, [], hcs, .inl rfl, Nat.zero_le _, hm, fun i hi => by simp at hi⟩
    · have hml : l ≤ m := by rw [hmm]; split <;> omega
      obtain ⟨b, off, spot⟩ := x
      have hspot : spot = none := by
        obtain ⟨cs', hc', -⟩ := hcell 0 (by omega)
        rw [cellsOfO] at hc'
        obtain ⟨_, hlen, hc⟩ := World.cells?_some hc'
        have h00 := hc 0 (by omega)
        rw [List.getElem?_eq_getElem (by omega)] at h00
        simpa [Addr.add] using World.cell?_spot h00
      subst hspot
      have each : ∀ i, i < l → ∃ e : Opn, OpAt W.heap.size W b (off + i * 6) e ∧ OpnIn e := by
        intro i hi
        obtain ⟨cs', hc', ht⟩ := hcell i (by omega)
        rw [cellsOfO, Addr.add_lit] at hc'
        obtain ⟨_, hlen, hc⟩ := World.cells?_some hc'
        obtain ⟨o, rfl, hs1, hs2, hs3, hs4⟩ := inOpB hlen (fun m hm => hw m (by
          rw [hx]
          simp only [DataW.weights, Try.underlying22]
          refine List.mem_cons_of_mem _ (List.mem_append.2 (.inl (mem_weightsAll (d := E i) ?_ hm)))
          exact List.mem_map_of_mem (List.mem_range.2 hi))) ht
        have c0 := hc 0 (by omega)
        have c1 := hc 1 (by omega)
        have c2 := hc 2 (by omega)
        have c3 := hc 3 (by omega)
        have c4 := hc 4 (by omega)
        have c5 := hc 5 (by omega)
        rw [Addr.add_lit] at c0 c1 c2 c3 c4 c5
        simp at c0 c1 c2 c3 c4 c5
        exact ⟨o, ⟨⟨c0, c1, c2, c3, c4, c5⟩, hs1, hs2, hs3⟩, hs4⟩
      have inh : Inhabited Opn := ⟨nilOpn⟩
      obtain ⟨D, hD⟩ := Deep.choose_lt each
      have hlt : b < W.heap.size := cell_lt (hD 0 (by omega)).1.1.1
      refine ⟨some ⟨b, off, none⟩, c, (List.range l).map D, by simpa using hcs, .inr ⟨b, off, rfl, hlt, fun i hi => ?_⟩, by simpa using hl, hm, fun i hi => ?_⟩
      · simp at hi
        rw [show ((List.range l).map D).getD i nilOpn = D i by simp [hi]]
        exact (hD i hi).1
      · simp at hi
        rw [show ((List.range l).map D).getD i nilOpn = D i by simp [hi]]
        exact (hD i hi).2
end Go.Proofs.Yteekpfgjpdopmaa
