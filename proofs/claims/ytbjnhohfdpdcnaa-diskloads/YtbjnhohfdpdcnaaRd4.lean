/-
  The document's disk: put into none.
-/
import Derived.Test.YtbjnhohfdpdcnaaRd3
namespace Go.Proofs.Ytbjnhohfdpdcnaa
open Go.RowKit Go.Shelf
set_option linter.unusedVariables false

theorem row_some {w : World} {N s n : Nat} {e : TypeId} {v : Value} {x : List Value} (h : w.ownsRow N e s v n x) (hn : 0 < n) : ∃ g c, v = .slice (some ⟨g, 0, none⟩) n c ∧ n ≤ c := by
  rcases h.2 with ⟨hv, h0⟩ | ⟨g, cap, cur, hv, _, _, h1, _⟩
  · omega
  · exact ⟨_, _, hv, h1⟩
set_option maxRecDepth 100000 in
set_option maxHeartbeats 8000000 in
theorem refPutNil_any {N : Nat} {w : World} {B : Nat} {p : PD} {l : List UInt8} (h : RD N w B p (.slice none 0 0) [] l) (fn : List UInt8) (fa : Option Addr) (fc : Nat) (fd : List UInt8) (fy : Int) (hx : Ow N w (.slice fa fd.length fc) fd) (hN : N ≤ w.heap.size) :
    Calls Try.prog 54 #[.pointer (some ⟨B, 0, none⟩), .agg #[.string ⟨fn.toArray⟩, .slice fa fd.length fc, .int .i64 fy]] w fun r w' => r = .returned (.tuple #[]) ∧ ∃ v', w'.heap[B]? = some (.cells #[v', .int .i64 (p.arm : Int), .bool p.dn, .string ⟨l.toArray⟩] 30 (0, 0)) ∧ FilesIn N w' v' (insF ⟨fn, fa, fc, fd, fy⟩ []) ∧ Out (· = B) w w' ∧ ∀ g, v'.ownBlock = some g → w.heap.size ≤ g := by
  have hBlt := h.lt
  have HH : Hid (RD N w B p (.slice none 0 0) [] l) := h
  have HBC : Hid (∀ w', Below w.heap.size w w' → w'.cell? ⟨B, 0, none⟩ = some (.slice none 0 0) ∧ w'.frozen? ⟨B, 0, none⟩ = false) := fun w' hB => by
    have hR := (hB.block B hBlt).trans h.hd
    exact ⟨by simp [World.cell?, hR], by simp [World.frozen?, hR]⟩
  obtain ⟨W0, hW0⟩ : ∃ W0, w.alloc (.cells #[.string ⟨fn.toArray⟩, .slice fa fd.length fc, .int .i64 fy] 37) = W0 := ⟨_, rfl⟩
  have HW0 : Hid (w.alloc (.cells #[.string ⟨fn.toArray⟩, .slice fa fd.length fc, .int .i64 fy] 37) = W0) := hW0
  have HS0 : Hid (W0.heap.size = w.heap.size + 1) := by show W0.heap.size = _; rw [← hW0]; simp
  have HBw0 : Hid (Below w.heap.size w W0) := by show Below w.heap.size w W0; rw [← hW0]; exact (Below.refl _ w).alloc (Nat.le_refl _) _
  have HFC : Hid (∀ w', Below W0.heap.size W0 w' → w'.cell? ⟨w.heap.size, 0, none⟩ = some (.string ⟨fn.toArray⟩) ∧ w'.cell? ⟨w.heap.size, 1, none⟩ = some (.slice fa fd.length fc) ∧ w'.cell? ⟨w.heap.size, 2, none⟩ = some (.int .i64 fy)) := fun w' hB => by
    have hh : W0.heap[w.heap.size]? = some (.cells #[.string ⟨fn.toArray⟩, .slice fa fd.length fc, .int .i64 fy] 37 (0, 0)) := by rw [← hW0]; exact heap_alloc_new w _
    have hR := (hB.block w.heap.size (by have := HS0.out; omega)).trans hh
    exact ⟨by simp [World.cell?, hR], by simp [World.cell?, hR], by simp [World.cell?, hR]⟩
  obtain ⟨i0, hi, hz0, hz1, hz2⟩ := info_parts info37
  clear h hW0
  go_enter Try.func54, Try.ntmps54
  go_wp2_with fail
  rw [HW0.out]
  go_loopw [4] (fun iv wr => iv = .int .i64 0 ∧ Below W0.heap.size W0 wr) (fun iv _ => 0)
  case atStart => exact ⟨rfl, Below.refl _ _⟩
  case round =>
    obtain ⟨rfl, hB⟩ := hrel
    have HB : Hid (Below W0.heap.size W0 wr) := hB
    obtain ⟨k0, -⟩ := HBC.out wr (HBw0.out.trans (hB.mono (by have := HS0.out; omega)))
    clear hB
    go_wp2_with fail
    go_quiet (fail)
    have HBX : Hid (Below W0.heap.size W0 (wr.drewN nq)) := HB.out.trans ⟨rfl, rfl, rfl, Nat.le_refl _, fun _ _ => rfl⟩
    clear k0
    generalize wr.drewN nq = wx at *
    have hB0 := HBX.out
    have hs0 : w.heap.size ≤ wx.heap.size := by have := hB0.size; have := HS0.out; omega
    have hBw : Below w.heap.size w wx := HBw0.out.trans (hB0.mono (by have := HS0.out; omega))
    have hb1 := hBw.alloc hs0 (.cells #[] 37)
    obtain ⟨k0, -⟩ := HBC.out (wx.alloc (.cells #[] 37)) hb1
    obtain ⟨f0, f1, f2⟩ := HFC.out (wx.alloc (.cells #[] 37)) (hB0.alloc hB0.size _)
    have hown0 : (wx.alloc (.cells #[] 37)).ownsRow w.heap.size 37 3 (.slice (some ⟨wx.heap.size, 0, none⟩) 0 0) 0 [] := ⟨rfl, .inr ⟨wx.heap.size, 0, #[], rfl, hs0, heap_alloc_new wx _, Nat.le_refl _, by unfold maxLen; omega, rfl, rfl⟩⟩
    go_wp2_with (first
      | (at_builtin; refine wpList_append_own _ rfl _ _ 28 rfl w.heap.size 37 i0 _ 3 48 Try.underlying28 hi hz0 hz1 hz2 rfl (by decide) _ 0 [] rfl (hown0.alloc _) ⟨wx.heap.size + 1, 0, none⟩ 1 1 [.string ⟨fn.toArray⟩, .slice fa fd.length fc, .int .i64 fy] rfl rfl (by simpa using cell_three_new (wx.alloc (.cells #[] 37)) (.string ⟨fn.toArray⟩) (.slice fa fd.length fc) (.int .i64 fy) 37) (by intro u hu; simp at hu; rcases hu with rfl | rfl | rfl <;> rfl) (by unfold maxLen; omega) (by omega) (by simp; omega) ?_; intro v2 w2 hown2 hg2 _; have hB2 : Below w.heap.size w w2 := (hb1.alloc hb1.size _).grown hg2 (by have := hb1.size; simp; omega) (fun j e => (hown0.lt j e).1); obtain ⟨x0, x4⟩ := HBC.out w2 hB2; rw [Nat.zero_add, List.nil_append] at hown2; obtain ⟨g2, c2, rfl, hc2⟩ := row_some hown2 (by omega))
      | fail)
    go_end0
    exact ⟨rfl, _, put_done (k := 0) (fs := []) HH.out hBlt hN hx hB2 (by simpa [cellsOf] using hown2) rfl (Nat.le_refl _)⟩
end Go.Proofs.Ytbjnhohfdpdcnaa
