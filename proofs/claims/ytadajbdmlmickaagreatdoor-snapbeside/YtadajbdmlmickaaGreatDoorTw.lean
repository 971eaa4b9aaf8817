/-
  Two disks apart, and what was told of one.
-/
import Derived.Test.YtadajbdmlmickaaGreatDoorFw
import Derived.Test.YtadajbdmlmickaaGreatDoorPy
import Derived.Test.YtadajbdmlmickaaGreatDoorSp
import Derived.Test.YtadajbdmlmickaaGreatDoorSi
namespace Go.Proofs.YtadajbdmlmickaaGreatDoor
open Go.RowKit
set_option linter.unusedVariables false

structure Tw (K : Nat) (w1 : World) (z0 : Nat) (V0 V : World) (da db : Nat) (pa pb : PD) : Prop where
  ex : ∃ Sa Sb, Dsk K V Sa da pa ∧ Dsk K V Sb db pb ∧ (∀ i, Sa i → Sb i → False) ∧ (∀ i, Sa i ∨ Sb i → i < z0 ∨ V0.heap.size ≤ i)
  bel : Below K w1 V
  keep : ∀ i, z0 ≤ i → i < V0.heap.size → V.heap[i]? = V0.heap[i]?
  ks : V0.heap.size ≤ V.heap.size
  kz : K ≤ V.heap.size
section
variable {K z0 : Nat} {w1 V0 V : World} {da db : Nat} {pa pb : PD}
theorem Tw.opA (h : Tw K w1 z0 V0 V da db pa pb) : ∃ Sa, Dsk K V Sa da pa ∧ ∀ V' pa', Then K Sa V V' da pa' → Tw K w1 z0 V0 V' da db pa' pb := by
  obtain ⟨⟨Sa, Sb, h1, h2, h3, h4⟩, hb, hk, hs, hz⟩ := h
  refine ⟨Sa, h1, fun V' pa' hT => ?_⟩
  have hz' := hT.out.size
  refine ⟨⟨grew Sa V V', Sb, hT.dsk, h2.out hT.out (fun i hi hx => h3 i hx hi), fun i hi hb => ?_, fun i hi => ?_⟩, hb.trans hT.bel, fun i hi hl => ?_, by omega, by omega⟩
  · rcases hi with h9 | h9
    · exact h3 i h9 hb
    · have := h2.inn i hb; have := h9.1; omega
  · rcases hi with (h9 | h9) | h9
    · exact h4 i (.inl h9)
    · right; have := h9.1; omega
    · exact h4 i (.inr h9)
  · refine (hT.out.block i (by omega) (fun h9 => ?_)).trans (hk i hi hl)
    rcases h4 i (.inl h9) with h8 | h8 <;> omega
theorem Tw.opB (h : Tw K w1 z0 V0 V da db pa pb) : ∃ Sb, Dsk K V Sb db pb ∧ ∀ V' pb', Then K Sb V V' db pb' → Tw K w1 z0 V0 V' da db pa pb' := by
  obtain ⟨⟨Sa, Sb, h1, h2, h3, h4⟩, hb, hk, hs, hz⟩ := h
  refine ⟨Sb, h2, fun V' pb' hT => ?_⟩
  have hz' := hT.out.size
  refine ⟨⟨Sa, grew Sb V V', h1.out hT.out (fun i hi hx => h3 i hi hx), hT.dsk, fun i ha hi => ?_, fun i hi => ?_⟩, hb.trans hT.bel, fun i hi hl => ?_, by omega, by omega⟩
  · rcases hi with h9 | h9
    · exact h3 i ha h9
    · have := h1.inn i ha; have := h9.1; omega
  · rcases hi with h9 | (h9 | h9)
    · exact h4 i (.inl h9)
    · exact h4 i (.inr h9)
    · right; have := h9.1; omega
  · refine (hT.out.block i (by omega) (fun h9 => ?_)).trans (hk i hi hl)
    rcases h4 i (.inr h9) with h8 | h8 <;> omega
theorem Tw.below {V' : World} (h : Tw K w1 z0 V0 V da db pa pb) (hB : Below V.heap.size V V') : Tw K w1 z0 V0 V' da db pa pb := by
  obtain ⟨⟨Sa, Sb, h1, h2, h3, h4⟩, hb, hk, hs, hz⟩ := h
  exact ⟨⟨Sa, Sb, h1.below hB, h2.below hB, h3, h4⟩, hb.trans (hB.mono hz), fun i hi hl => (hB.block i (by omega)).trans (hk i hi hl), Nat.le_trans hs hB.size, Nat.le_trans hz hB.size⟩
theorem Tw.anew {V' : World} (h : Tw K w1 z0 V0 V da db pa pb) (hB : Below V.heap.size V V') : Tw K w1 V.heap.size V' V' da db pa pb := by
  obtain ⟨⟨Sa, Sb, h1, h2, h3, h4⟩, hb, hk, hs, hz⟩ := h
  exact ⟨⟨Sa, Sb, h1.below hB, h2.below hB, h3, fun i hi => .inl (hi.elim (h1.inn i) (h2.inn i))⟩, hb.trans (hB.mono hz), fun _ _ _ => rfl, Nat.le_refl _, Nat.le_trans hz hB.size⟩
theorem Tw.riseA (h : Tw K w1 z0 V0 V da db pa pb) : Rise pa := by obtain ⟨S, h1, -⟩ := h.opA; exact h1.rise
theorem Tw.riseB (h : Tw K w1 z0 V0 V da db pa pb) : Rise pb := by obtain ⟨S, h1, -⟩ := h.opB; exact h1.rise
theorem Tw.ow (h : Tw K w1 z0 V0 V da db pa pb) {v : Value} {l : List UInt8} (hO : Ow z0 V0 v l) : Ow z0 V v l := by
  rcases hO with ⟨q1, q2 | ⟨g, cap', cur, q2, q3, q4, q5⟩⟩
  · exact ⟨q1, .inl q2⟩
  · exact ⟨q1, .inr ⟨g, cap', cur, q2, q3, (h.keep g q3 (Array.getElem?_eq_some_iff.1 q4).1).trans q4, q5⟩⟩
theorem Tw.files (h : Tw K w1 z0 V0 V da db pa pb) {v : Value} {fs : List Fl} (hF : FilesIn z0 V0 v fs) : FilesIn z0 V v fs := by
  refine ⟨?_, fun f hf => h.ow (hF.own f hf)⟩
  rcases hF.row with ⟨q1, q2 | ⟨g, cap', cur, q2, q3, q4, q5⟩⟩
  · exact ⟨q1, .inl q2⟩
  · exact ⟨q1, .inr ⟨g, cap', cur, q2, q3, (h.keep g q3 (Array.getElem?_eq_some_iff.1 q4).1).trans q4, q5⟩⟩
/-- Save on one, on the other. -/
theorem Tw.saveA (h : Tw K w1 z0 V0 V da db pa pb) (hv : ∀ V, Below K w1 V → Vars V) (i t : Int) (m : List UInt8) (a : Option Addr) (cap M : Nat) (hx : Sl M V (.slice a m.length cap) m) (hM : M ≤ K) :
    Calls Tryz.prog 24 #[.pointer (some ⟨da, 0, none⟩), .agg #[.int .i64 i, .int .i64 t, .slice a m.length cap]] V fun r V' => r = .returned (.int .i64 ((saveP pa i t m).1 : Int)) ∧ Tw K w1 z0 V0 V' da db (saveP pa i t m).2 pb := by
  obtain ⟨S, hD, hn⟩ := h.opA
  refine (save_any hD h.kz (fun V' hV' => hv V' (h.bel.trans hV')) i t m a cap M hx (Nat.le_trans hM h.kz)).mono ?_
  rintro r V' ⟨rfl, hT⟩
  exact ⟨rfl, hn _ _ hT⟩
theorem Tw.saveB (h : Tw K w1 z0 V0 V da db pa pb) (hv : ∀ V, Below K w1 V → Vars V) (i t : Int) (m : List UInt8) (a : Option Addr) (cap M : Nat) (hx : Sl M V (.slice a m.length cap) m) (hM : M ≤ K) :
    Calls Tryz.prog 24 #[.pointer (some ⟨db, 0, none⟩), .agg #[.int .i64 i, .int .i64 t, .slice a m.length cap]] V fun r V' => r = .returned (.int .i64 ((saveP pb i t m).1 : Int)) ∧ Tw K w1 z0 V0 V' da db pa (saveP pb i t m).2 := by
  obtain ⟨S, hD, hn⟩ := h.opB
  refine (save_any hD h.kz (fun V' hV' => hv V' (h.bel.trans hV')) i t m a cap M hx (Nat.le_trans hM h.kz)).mono ?_
  rintro r V' ⟨rfl, hT⟩
  exact ⟨rfl, hn _ _ hT⟩
theorem Tw.keepA (h : Tw K w1 z0 V0 V da db pa pb) (hv : ∀ V, Below K w1 V → Vars V) (n : Nat) (hn0 : 1 ≤ n) (hn : n ≤ 9223372036854775807) :
    Calls Tryz.prog 28 #[.pointer (some ⟨da, 0, none⟩), .int .i64 (n : Int)] V fun r V' => (∃ x y, r = .returned (.tuple #[x, y])) ∧ Tw K w1 z0 V0 V' da db (remL pa (spareL pa n)).2 pb := by
  obtain ⟨S, hD, hn'⟩ := h.opA
  refine (keep_any hD h.kz (fun V' hV' => hv V' (h.bel.trans (hV'.mono h.kz))) n hn0 hn).mono ?_
  rintro r V' ⟨rfl, hT⟩
  exact ⟨⟨_, _, rfl⟩, hn' _ _ hT⟩
theorem Tw.keepB (h : Tw K w1 z0 V0 V da db pa pb) (hv : ∀ V, Below K w1 V → Vars V) (n : Nat) (hn0 : 1 ≤ n) (hn : n ≤ 9223372036854775807) :
    Calls Tryz.prog 28 #[.pointer (some ⟨db, 0, none⟩), .int .i64 (n : Int)] V fun r V' => (∃ x y, r = .returned (.tuple #[x, y])) ∧ Tw K w1 z0 V0 V' da db pa (remL pb (spareL pb n)).2 := by
  obtain ⟨S, hD, hn'⟩ := h.opB
  refine (keep_any hD h.kz (fun V' hV' => hv V' (h.bel.trans (hV'.mono h.kz))) n hn0 hn).mono ?_
  rintro r V' ⟨rfl, hT⟩
  exact ⟨⟨_, _, rfl⟩, hn' _ _ hT⟩
/-- An operation of the first disk. -/
theorem Tw.op (h : Tw K w1 z0 V0 V da db pa pb) {F : Nat} {args : Array Value} {X : PD → Nat × PD} (hc : ∀ S k, DkC S V da k → (∀ i, S i → K ≤ i) → Calls Tryz.prog F args V fun r w' => Done S V da (X k.pd) r w') : Calls Tryz.prog F args V fun r V' => r = .returned (.int .i64 ((X pa).1 : Int)) ∧ Tw K w1 z0 V0 V' da db (X pa).2 pb := by
  obtain ⟨S, hD, hn'⟩ := h.opA
  refine (op_x hD h.kz (X := X) (fun k hk hS => hc S k hk hS)).mono ?_
  rintro r V' ⟨rfl, hT⟩
  exact ⟨rfl, hn' _ _ hT⟩
theorem Tw.filesA (h : Tw K w1 z0 V0 V da db pa pb) : Calls Tryz.prog 32 #[.pointer (some ⟨da, 0, none⟩)] V fun r V' => ∃ v fs, r = .returned v ∧ FilesIn V.heap.size V' v fs ∧ saysF fs = pa.fs.map PF.says ∧ fs.length ≤ 256 ∧ Below V.heap.size V V' := by
  obtain ⟨S, ⟨k, hk, rfl, hS⟩, -⟩ := h.opA
  refine (files_any hk).mono ?_
  rintro r w' ⟨v, fs, rfl, hF, hs, hB⟩
  refine ⟨v, fs, rfl, hF, by rw [← says_pd]; exact hs, ?_, hB⟩
  have e := congrArg List.length hs
  rw [List.length_map, List.length_map] at e
  rw [e]; exact hk.few
end
/-- Keep of less than one. -/
theorem keep_less (v : Value) (n : Int) (hn : n < 1) (w : World) : Calls Tryz.prog 28 #[v, .int .i64 n] w fun r w' => (∃ x y, r = .returned (.tuple #[x, y])) ∧ w' = w := by
  go_enter Tryz.func28, Tryz.ntmps28
  go_wp2
  go_ret2
  exact ⟨⟨_, _, rfl⟩, rfl⟩
end Go.Proofs.YtadajbdmlmickaaGreatDoor
