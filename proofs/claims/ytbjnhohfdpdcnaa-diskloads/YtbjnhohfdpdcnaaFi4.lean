/-
  The document's Files: a copy, apart.
-/
import Derived.Test.YtbjnhohfdpdcnaaSmw
import Derived.Test.YtbjnhohfdpdcnaaDo1
namespace Go.Proofs.Ytbjnhohfdpdcnaa
open Go.RowKit Go.Shelf
set_option linter.unusedVariables false

structure FI (N : Nat) (w0 w : World) (va : Option Addr) (n vc : Nat) (fl : List Fl) : Prop where
  fi : FilesIn N w (.slice va n vc) fl
  pw : fl.Pairwise ApF
  ln : fl.length = n
  be : Below N w0 w
  hN : N ≤ w0.heap.size
theorem FI.sz {N : Nat} {w0 w : World} {va : Option Addr} {n vc : Nat} {fl : List Fl} (h : FI N w0 w va n vc fl) : N ≤ w.heap.size := Nat.le_trans h.hN h.be.size
/-- A byte of a file's is written over. -/
theorem FI.poke {N : Nat} {w0 w : World} {va : Option Addr} {n vc i k b : Nat} {fl : List Fl} {f : Fl} (h : FI N w0 w va n vc fl) (hi : i < n) (hf : fl.getD i nilFl = f) (ha : f.a = some ⟨b, 0, none⟩) : FI N w0 (w.setCell ⟨b, k, none⟩ (.int .u8 96)) va n vc (fl.set i ⟨f.nm, f.a, f.c, f.dat.set k 96, f.syn⟩) := by
  have hil : i < fl.length := by rw [h.ln]; exact hi
  have hgi := getD_some hil
  rw [hf] at hgi
  have hfm : f ∈ fl := List.mem_of_getElem? hgi
  have hO := h.fi.own f hfm
  have hfb : f.x.ownBlock = some b := by unfold Fl.x; rw [ha]; rfl
  have hO' : w.ownsRow N 5 1 (.slice (some ⟨b, 0, none⟩) f.dat.length f.c) f.dat.length (f.dat.map encB) := by have h9 := hO; unfold Fl.x at h9; rw [ha] at h9; exact h9
  have hs := World.ownsRow.stored hO' k (.int .u8 96)
  have hbN := (World.ownsRow.lt hO b hfb).1
  refine ⟨⟨?_, fun x hx => ?_⟩, ap_set h.pw hil _ (fun b' hb' => .inl ?_), by rw [List.length_set]; exact h.ln, h.be.grown hs.2 h.sz (fun j hj => by cases hj; exact hbN), h.hN⟩
  · have e : cellsOf (fl.set i ⟨f.nm, f.a, f.c, f.dat.set k 96, f.syn⟩) = cellsOf fl := by
      have hx : (⟨f.nm, f.a, f.c, f.dat.set k 96, f.syn⟩ : Fl).cells = f.cells := by simp [Fl.cells, Fl.x]
      have e2 : (fl.set i ⟨f.nm, f.a, f.c, f.dat.set k 96, f.syn⟩).map Fl.cells = fl.map Fl.cells := by
        rw [List.map_set, hx]
        refine List.ext_getElem? fun j => ?_
        rw [List.getElem?_set]
        split
        · rename_i e3
          subst e3
          split
          · rw [List.getElem?_map, hgi]; rfl
          · rename_i hlt; simp at hlt; omega
        · rfl
      unfold cellsOf
      rw [e2]
    rw [e, List.length_set]
    exact World.ownsRow.kept h.fi.row hs.2 (by
      cases hv : (Value.slice va n vc).ownBlock with
      | none => exact .inl rfl
      | some j => exact .inr (fun e => row_ty h.fi.row hO (by decide) j hv (by rw [hfb, ← e])))
  · rcases mem_set_ne hx with rfl | ⟨j, hj, hxj⟩
    · show World.ownsRow _ _ _ _ _ _ _
      unfold Fl.x
      simp only [List.length_set]
      rw [ha, List.map_set]
      exact hs.1
    · have hxm := List.mem_of_getElem? hxj
      refine (h.fi.own x hxm).kept hs.2 ?_
      cases hv : x.x.ownBlock with
      | none => exact .inl rfl
      | some j' => exact .inr (fun e => ap_at h.pw hj hgi hxj j' hv (by rw [hfb, ← e]))
  · rw [hf]
    unfold Fl.x at hb' ⊢
    rw [ha] at hb' ⊢
    exact hb'

set_option maxRecDepth 100000 in
set_option maxHeartbeats 8000000 in
theorem files14 (a : Option Addr) (c : Nat) (fs : List Fl) (N : Nat) (w : World) (h : FlsAt N w a fs) (hN : N ≤ w.heap.size) (hz : ∀ f ∈ fs, f.dat.length ≤ 140737488351232) (hl : fs.length ≤ 300) :
    Calls Try.prog 14 #[.slice a fs.length c] w fun r w' => ∃ ga gc gl, r = .returned (.slice ga fs.length gc) ∧ FilesIn w.heap.size w' (.slice ga fs.length gc) gl ∧ gl.length = fs.length ∧ saysF gl = saysF fs ∧ gl.Pairwise ApF ∧ Below w.heap.size w w' := by
  have H1 : Hid (FlsAt N w a fs) := h
  have HZ : Hid (∀ f ∈ fs, f.dat.length ≤ 140737488351232) := hz
  clear h hz
  go_enter Try.func14, Try.ntmps14
  go_wp2_with fail
  go_loopw [3, 4] (fun sv iv wr => ∃ (j : Nat) (fl : List Fl), iv = .int .i64 (j : Int) ∧ j ≤ fs.length ∧ FilesIn w.heap.size wr sv fl ∧ fl.length = j ∧ saysF fl = saysF (fs.take j) ∧ fl.Pairwise ApF ∧ Below w.heap.size w wr) (fun _ iv _ => fs.length - (intOf iv).toNat)
  case atStart => exact ⟨0, [], rfl, Nat.zero_le _, ⟨World.ownsRow_nil _ _ _ _, by simp⟩, rfl, by simp, List.Pairwise.nil, Below.refl _ _⟩
  case round =>
    obtain ⟨j, fl, rfl, hj, hfi, hlf, hsay, hpw, hB⟩ := hrel
    have HFI : Hid (FilesIn w.heap.size wr u3 fl) := hfi
    have HLF : Hid (fl.length = j) := hlf
    have HS : Hid (saysF fl = saysF (fs.take j)) := hsay
    have HPW : Hid (fl.Pairwise ApF) := hpw
    have HB : Hid (Below w.heap.size w wr) := hB
    obtain ⟨ua, uc, hu⟩ := row_shape hfi.row
    have HU : Hid (u3 = .slice ua fl.length uc) := hu
    clear hu
    by_cases hlt : j < fs.length
    · have hi0 : (0 : Int) ≤ (j : Int) := by omega
      have hi1 : (j : Int) < (fs.length : Int) := by omega
      obtain ⟨b, off, rfl, hb1, hx⟩ := H1.out.at hlt
      obtain ⟨p0, p1, p2, p3⟩ := hx.below hb1 (hB.mono hN)
      have hbd := HZ.out _ (getD_mem hlt)
      have HTK : Hid (fs.take (j + 1) = fs.take j ++ [fs.getD j nilFl]) := take_fl hlt
      generalize fs.getD j nilFl = f at *
      obtain ⟨nm, fa, fc, dat, syn⟩ := f
      unfold Fl.x at p1 p3
      simp only at p0 p1 p2 p3 hbd
      have hsz := hB.size
      have hby := bytes_anyX N (.slice fa dat.length fc) dat wr.drew (p3.below ⟨rfl, rfl, rfl, Nat.le_refl _, fun _ _ => rfl⟩) (by show N ≤ wr.heap.size; omega) (by omega)
      have hbw : b < wr.heap.size := by omega
      have HNE : Hid (some b ≠ Value.ownBlock u3) := by
        show some b ≠ _
        intro e
        have h7 := (World.ownsRow.lt HFI.out.row b e.symm).1
        omega
      clear hfi hlf hsay hpw hB hx p3
      go_wp2_with fail
      go_region_held3 (fun w' => w'.cell? ⟨b, off + j * 3, none⟩ = some (.string ⟨nm.toArray⟩) ∧ w'.cell? ⟨b, off + j * 3 + 1, none⟩ = some (.slice fa dat.length fc) ∧ w'.cell? ⟨b, off + j * 3 + 2, none⟩ = some (.int .i64 syn)) (go_keep)
        (first
          | (go_at_call 49; refine hby.mono ?_; rintro e w5 ⟨v5, rfl, hO5, hB5⟩; obtain ⟨ba, bc, rfl, -, -⟩ := hO5.shape; have hB5x : Below wr.heap.size wr w5 := ⟨hB5.os, hB5.tape, hB5.output, hB5.size, hB5.block⟩; have hO5x : Ow wr.heap.size w5 (.slice ba dat.length bc) dat := hO5; have k0 := (hB5x.cell (p := ⟨b, off + j * 3, none⟩) hbw).trans p0; have k1 := (hB5x.cell (p := ⟨b, off + j * 3 + 1, none⟩) hbw).trans p1; have k2 := (hB5x.cell (p := ⟨b, off + j * 3 + 2, none⟩) hbw).trans p2)
          | (refine step_append_fl rfl (.tmp 11) (.tmp 29) rfl w.heap.size u3 fl.length (cellsOf fl) (by simp [Act.eval]) (World.ownsRow.alloc (row_below HFI.out.row hB5x) _) w5.heap.size (by simp [Act.eval]) ⟨nm, ba, bc, dat, syn⟩ (heap_alloc_new w5 _) (by have := HLF.out; omega) (by have h2 := hB5x.size; simp only [World.size_alloc]; omega) ?_; intro v6 w6 hrow6 hg6 hl6; have m0 := hg6.cell (World.grownBy.cell (World.grownBy_alloc w5 _ none) k0 (by simp)) HNE.out; have m1 := hg6.cell (World.grownBy.cell (World.grownBy_alloc w5 _ none) k1 (by simp)) HNE.out; have m2 := hg6.cell (World.grownBy.cell (World.grownBy_alloc w5 _ none) k2 (by simp)) HNE.out)
          | fail)
      have hrow5 := World.ownsRow.alloc (row_below HFI.out.row hB5x) (.cells #[.string ⟨nm.toArray⟩, .slice ba dat.length bc, .int .i64 syn] 37)
      have HEND : Hid (FilesIn w.heap.size w6 v6 (fl ++ [⟨nm, ba, bc, dat, syn⟩]) ∧ saysF (fl ++ [(⟨nm, ba, bc, dat, syn⟩ : Fl)]) = saysF (fs.take (j + 1)) ∧ (fl ++ [(⟨nm, ba, bc, dat, syn⟩ : Fl)]).Pairwise ApF ∧ Below w.heap.size w w6) := by
        refine ⟨⟨by simpa [cellsOf] using hrow6, fun f hf => ?_⟩, ?_, ?_, ?_⟩
        · rcases List.mem_append.1 hf with hf | hf
          · have h9 := (Ow.below (HFI.out.own f hf) hB5x (Nat.le_refl _)).alloc (.cells #[.string ⟨nm.toArray⟩, .slice ba dat.length bc, .int .i64 syn] 37)
            exact h9.kept hg6 (rows_apart hrow5 h9)
          · obtain rfl : f = _ := by simpa using hf
            have h9 := (Ow.base (N' := w.heap.size) hO5x hsz).alloc (.cells #[.string ⟨nm.toArray⟩, .slice ba dat.length bc, .int .i64 syn] 37)
            exact h9.kept hg6 (rows_apart hrow5 h9)
        · have h9 := HS.out
          unfold saysF at h9 ⊢
          rw [HTK.out, List.map_append, List.map_append, h9]
          rfl
        · refine List.pairwise_append.2 ⟨HPW.out, List.pairwise_singleton _ _, fun x hx y hy => ?_⟩
          obtain rfl := List.mem_singleton.1 hy
          intro b' hb' e
          have q1 := (World.ownsRow.lt (HFI.out.own x hx) b' hb').2
          have q2 := (World.ownsRow.lt hO5x b' e).1
          omega
        · exact ((HB.out.trans (hB5x.mono hsz)).alloc (Nat.le_trans hsz hB5x.size) _).grown hg6 (by simp only [World.size_alloc]; have h2 := hB5x.size; omega) (fun j hj => (World.ownsRow.lt hrow5 j hj).1)
      clear hrow6 hg6 hl6 m0 m1 m2 k0 k1 k2 hrow5 hO5 hO5x
      go_wp2
      exact ⟨⟨j + 1, _, by go_num, by omega, HEND.out.1, by simp [HLF.out], HEND.out.2.1, HEND.out.2.2.1, HEND.out.2.2.2⟩, by simp [intOf]; omega⟩
    · have hge : decide ((j : Int) < (fs.length : Int)) = false := by simp; omega
      have HJ : Hid (j = fs.length) := by show j = fs.length; omega
      have HT : Hid (fs.take j = fs) := List.take_of_length_le (by omega)
      clear hfi hlf hsay hpw hB
      go_wp2
      go_ret
      have hf9 := HFI.out
      rw [HU.out, HLF.out, HJ.out] at hf9
      refine ⟨ua, uc, fl, by rw [HU.out, HLF.out, HJ.out]; rfl, hf9, by rw [HLF.out, HJ.out], by rw [HS.out, HT.out], HPW.out, HB.out⟩
end Go.Proofs.Ytbjnhohfdpdcnaa
