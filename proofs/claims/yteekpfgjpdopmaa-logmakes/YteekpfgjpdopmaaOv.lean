/-
  What was answered is written over; Lent, Kept; the document's marks; Len.
-/
import Derived.Test.YteekpfgjpdopmaaBw
import Derived.Deep.RegionHeld3
namespace Go.Proofs.Yteekpfgjpdopmaa
open Go.RowKit
set_option linter.unusedVariables false

/-- One byte of bytes of the call's own is written over. -/
theorem Ow.store {N : Nat} {w : World} {g cap : Nat} {l : List UInt8} (h : Ow N w (.slice (some ⟨g, 0, none⟩) l.length cap) l) (k : Nat) (x : UInt8) :
    Ow N (w.setCell ⟨g, k, none⟩ (encB x)) (.slice (some ⟨g, 0, none⟩) l.length cap) (l.set k x) := by
  rcases h.2 with ⟨h0, h1⟩ | ⟨g', cap', cur, hv, hg, hh, hc1, hc2, hc3, hc4⟩
  · cases h0
  · cases hv
    refine ⟨by simp, .inr ⟨g, cap, cur.set! k (encB x), by simp, hg, ?_, by simpa using hc1, hc2, by simpa using hc3, ?_⟩⟩
    · obtain ⟨hlt, he⟩ := Array.getElem?_eq_some_iff.1 hh
      show (w.heap.modify g _)[g]? = _
      rw [Array.getElem?_eq_getElem (by rw [Array.size_modify]; exact hlt), Array.getElem_modify_self, he]
      simp
    · simp only [Nat.mul_one, List.length_set] at hc4 ⊢
      rw [Array.set!_eq_setIfInBounds, Array.toList_setIfInBounds, List.take_set, hc4, List.map_set]
theorem Ow.can {N : Nat} {w : World} {a : Option Addr} {cap : Nat} {l : List UInt8} (h : Ow N w (.slice a l.length cap) l) (k : Nat) (hk : k < l.length) : ∃ g u, a = some ⟨g, 0, none⟩ ∧ w.cell? ⟨g, k, none⟩ = some u ∧ w.frozen? ⟨g, k, none⟩ = false ∧ g < w.heap.size := by
  rcases h.2 with ⟨h0, h1⟩ | ⟨g, cap', cur, hv, hg, hh, hc1, hc2, hc3, hc4⟩
  · omega
  · cases hv
    have hlt := (Array.getElem?_eq_some_iff.1 hh).1
    refine ⟨g, cur[k]'(by omega), rfl, ?_, by simp [World.frozen?, hh], hlt⟩
    simp only [World.cell?, hh]
    simp [show k < cur.size by omega]

/-- Entries that are ours to write over: the row, and each one's bytes, whatever they say. -/
structure Ov (N : Nat) (w : World) (v : Value) (es : List Ent) : Prop where
  row : w.ownsRow N 40 4 v es.length (entCells es)
  dat : ∀ e ∈ es, ∃ d, d.length = e.d.length ∧ Ow N w e.x d
/-- Their blocks. -/
def OvX (v : Value) (es : List Ent) (i : Nat) : Prop := v.ownBlock = some i ∨ ∃ e ∈ es, e.x.ownBlock = some i
theorem EntsOw.ov {N : Nat} {w : World} {v : Value} {es : List Ent} (h : EntsOw N w v es) : Ov N w v es := ⟨h.row, fun e he => ⟨e.d, rfl, h.dat e he⟩⟩
theorem Ov.lt {N : Nat} {w : World} {v : Value} {es : List Ent} (h : Ov N w v es) {i : Nat} (hi : OvX v es i) : N ≤ i ∧ i < w.heap.size := by
  rcases hi with hi | ⟨e, he, hi⟩
  · exact h.row.lt i hi
  · obtain ⟨d, _, ho⟩ := h.dat e he
    exact ho.lt hi
theorem Ov.at {N : Nat} {w : World} {va : Option Addr} {vc : Nat} {es : List Ent} (h : Ov N w (.slice va es.length vc) es) {i : Nat} (hi : i < es.length) : ∃ g, va = some ⟨g, 0, none⟩ ∧ g < w.heap.size ∧ w.cell? ⟨g, i * 4, none⟩ = some (.int .i64 (es.getD i nilEnt).t) ∧ w.cell? ⟨g, i * 4 + 1, none⟩ = some (.int .i64 (es.getD i nilEnt).i) ∧ w.cell? ⟨g, i * 4 + 2, none⟩ = some (.int .i64 (es.getD i nilEnt).k) ∧ w.cell? ⟨g, i * 4 + 3, none⟩ = some (es.getD i nilEnt).x ∧ ∀ o, w.frozen? ⟨g, o, none⟩ = false := by
  rcases h.row.2 with ⟨_, h0⟩ | ⟨g, cap, cur, hv, hg, hh, hc1, hc2, hc3, hc4⟩
  · omega
  · cases hv
    have hlt := (Array.getElem?_eq_some_iff.1 hh).1
    have key : ∀ o u, (entCells es)[o]? = some u → w.cell? ⟨g, o, none⟩ = some u := fun o u ho => by
      have ho' : o < es.length * 4 := by rw [← entCells_length]; exact (List.getElem?_eq_some_iff.1 ho).1
      rw [← hc4, List.getElem?_take_of_lt ho'] at ho
      simp only [World.cell?, hh]
      simpa using ho
    obtain ⟨e0, e1, e2, e3⟩ := entCells_at es i hi
    exact ⟨g, rfl, hlt, key _ _ e0, key _ _ e1, key _ _ e2, key _ _ e3, fun o => by simp [World.frozen?, hh]⟩
/-- A byte of an entry is written over. -/
theorem Ov.poke {N : Nat} {w : World} {v : Value} {es : List Ent} (h : Ov N w v es) {e : Ent} (he : e ∈ es) {g : Nat} (hg : e.x.ownBlock = some g) (k : Nat) (y : UInt8) : Ov N (w.setCell ⟨g, k, none⟩ (encB y)) v es := by
  have hO : Out (fun i => i = g) w (w.setCell ⟨g, k, none⟩ (encB y)) := (Out.refl (fun i => i = g) w).put rfl
  obtain ⟨d, hd, ho⟩ := h.dat e he
  refine ⟨?_, fun f hf => ?_⟩
  · refine ⟨h.row.1, ?_⟩
    rcases h.row.2 with h2 | ⟨r, cap, cur, hv, hr, hh, q⟩
    · exact .inl h2
    · refine .inr ⟨r, cap, cur, hv, hr, (hO.block r (Array.getElem?_eq_some_iff.1 hh).1 (fun e' => ?_)).trans hh, q⟩
      exact ho.not_at hh (by decide) (by rw [e']; exact hg)
  · obtain ⟨d', hd', ho'⟩ := h.dat f hf
    by_cases hfg : f.x.ownBlock = some g
    · rcases ho'.2 with ⟨hv, _⟩ | ⟨g', cap', cur, hv, _⟩
      · rw [hv] at hfg; cases hfg
      · rw [hv] at hfg ho' ⊢
        cases hfg
        exact ⟨d'.set k y, by simpa using hd', by have := ho'.store k y; simpa using this⟩
    · exact ⟨d', hd', ho'.out hO (fun g' hg' e' => hfg (by rw [← e']; exact hg'))⟩

set_option maxRecDepth 100000 in
set_option maxHeartbeats 4000000 in
/-- over: entries that were answered are written over. -/
theorem over_any {N : Nat} {w : World} {va : Option Addr} {vc : Nat} {es : List Ent} (h : Ov N w (.slice va es.length vc) es) (hn : es.length ≤ 1000000) :
    Calls Try.prog 18 #[.slice va es.length vc] w fun e w' => e = .returned (.tuple #[]) ∧ Out (OvX (.slice va es.length vc) es) w w' := by
  have H : Hid (Ov N w (.slice va es.length vc) es) := h
  clear h
  go_enter Try.func18, Try.ntmps18
  go_wp2
  go_loopw [2] (fun iv wr => ∃ k : Nat, iv = .int .i64 (k : Int) ∧ k ≤ es.length ∧ Ov N wr (.slice va es.length vc) es ∧ Out (OvX (.slice va es.length vc) es) w wr) (fun iv _ => es.length - (intOf iv).toNat)
  case atStart => exact ⟨0, rfl, Nat.zero_le _, H.out, Out.refl _ _⟩
  case round =>
    obtain ⟨k, rfl, hk, hO, hX⟩ := hrel
    have HO : Hid (Ov N wr (.slice va es.length vc) es) := hO
    have HX : Hid (Out (OvX (.slice va es.length vc) es) w wr) := hX
    clear hO hX H
    by_cases hlt : k < es.length
    · have hlt' : (k : Int) < (es.length : Int) := by omega
      have hi0 : (0 : Int) ≤ (k : Int) := by omega
      generalize wr = wo at *
      go_wp2
      go_loopw [3] (fun jv wr => ∃ j : Nat, jv = .int .i64 (j : Int) ∧ j ≤ (es.getD k nilEnt).d.length ∧ Ov N wr (.slice va es.length vc) es ∧ Out (OvX (.slice va es.length vc) es) w wr) (fun jv _ => (es.getD k nilEnt).d.length - (intOf jv).toNat)
      case atStart => exact ⟨0, rfl, Nat.zero_le _, HO.out, HX.out⟩
      case round =>
        obtain ⟨j, rfl, hj, hO2, hX2⟩ := hrel
        have HO2 : Hid (Ov N wr (.slice va es.length vc) es) := hO2
        have HX2 : Hid (Out (OvX (.slice va es.length vc) es) w wr) := hX2
        have hmem : es.getD k nilEnt ∈ es := by rw [List.getD_eq_getElem?_getD, List.getElem?_eq_getElem hlt]; exact List.getElem_mem hlt
        obtain ⟨g, hva, hgl, -, -, -, c3, -⟩ := hO2.at hlt
        obtain ⟨d, hd, ho⟩ := hO2.dat _ hmem
        have HPK : Hid (∀ g', (es.getD k nilEnt).x.ownBlock = some g' → Ov N (wr.setCell ⟨g', j, none⟩ (encB 76)) (.slice va es.length vc) es ∧ Out (OvX (.slice va es.length vc) es) w (wr.setCell ⟨g', j, none⟩ (encB 76))) := fun g' hg' => ⟨HO2.out.poke hmem hg' j 76, HX2.out.put (.inr ⟨_, hmem, hg'⟩)⟩
        subst hva
        clear hO2 hX2 HO HX hmem
        generalize es.getD k nilEnt = e at *
        obtain ⟨et, ei, ek, ea, ec, ed⟩ := e
        unfold Ent.x at c3 ho HPK
        dsimp only at c3 ho HPK hd hj
        by_cases hlt2 : j < ed.length
        · have hlt2' : (j : Int) < (ed.length : Int) := by omega
          have hj0 : (0 : Int) ≤ (j : Int) := by omega
          rw [← hd] at ho
          have hed : ed.length ≤ 9223372036854775807 := by obtain ⟨_, _, _, r1, r2⟩ := ho.shape; unfold maxLen at r2; omega
          obtain ⟨g', u, hea, c4, c5, hgl2⟩ := ho.can j (by omega)
          subst hea
          have HPK2 := HPK.out g' rfl
          have HP1 : Hid (Ov N (wr.setCell ⟨g', j, none⟩ (.int .u8 76)) (.slice (some ⟨g, 0, none⟩) es.length vc) es) := HPK2.1
          have HP2 : Hid (Out (OvX (.slice (some ⟨g, 0, none⟩) es.length vc) es) w (wr.setCell ⟨g', j, none⟩ (.int .u8 76))) := HPK2.2
          clear ho HPK HPK2 HO2 HX2 hd
          go_wp2
          exact ⟨⟨j + 1, by go_num, by omega, HP1.out, HP2.out⟩, by simp [intOf]; omega⟩
        · have hlt2' : ¬ (j : Int) < (ed.length : Int) := by omega
          clear ho HPK hd
          go_wp2
          exact ⟨⟨k + 1, by go_num, by omega, HO2.out, HX2.out⟩, by simp [intOf]; omega⟩
    · have hlt' : ¬ (k : Int) < (es.length : Int) := by omega
      go_wp2
      go_returns
      exact ⟨rfl, HX.out⟩
end Go.Proofs.Yteekpfgjpdopmaa
