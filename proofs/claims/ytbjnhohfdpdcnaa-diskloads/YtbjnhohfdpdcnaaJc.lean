/-
  The document's disk: put into none. The document's names. The document's disk: Create, of a disk that is up and not armed. The document's disk: does this write fail?
-/
import Derived.Test.YtbjnhohfdpdcnaaRd3
import Derived.Test.YtbjnhohfdpdcnaaLaw
namespace Go.Proofs.Ytbjnhohfdpdcnaa
open Go.RowKit Go.Shelf
set_option linter.unusedVariables false

theorem row_some {w : World} {N s n : Nat} {e : TypeId} {v : Value} {x : List Value} (h : w.ownsRow N e s v n x) (hn : 0 < n) : ∃ g c, v = .slice (some ⟨g, 0, none⟩) n c ∧ n ≤ c := by
  rcases h.2 with ⟨hv, h0⟩ | ⟨g, cap, cur, hv, _, _, h1, _⟩
  · omega
  · exact ⟨_, _, hv, h1⟩
set_option maxRecDepth 100000 in
set_option maxHeartbeats 8000000 in
theorem refPutNil_any {N : Nat} {w : World} {B : Nat} {p : PD} {l : List UInt8} (h : RD N w B p (.slice none 0 0) [] l) (fn : List UInt8) (fa : Option Addr) (fc : Nat) (fd : List UInt8) (fy : Int) (hx : Ow N w (.slice fa fd.length fc) fd) (hN : N ≤ w.heap.size) :
    Calls Try.prog 54 #[.pointer (some ⟨B, 0, none⟩), .agg #[.string ⟨fn.toArray⟩, .slice fa fd.length fc, .int .i64 fy]] w fun r w' => r = .returned (.tuple #[]) ∧ ∃ v', w'.heap[B]? = some (.cells #[v', .int .i64 (p.arm : Int), .bool p.dn, .string ⟨l.toArray⟩] 30 (0, 0)) ∧ FilesIn N w' v' (insF ⟨fn, fa, fc, fd, fy⟩ []) ∧ Out (· = B) w w' ∧ ∀ g, v'.ownBlock = some g → w.heap.size ≤ g := by
  have hBlt := h.lt
  have HH : Hid (RD N w B p (.slice none 0 0) [] l) := h
  have HBC : Hid (∀ w', Below w.heap.size w w' → w'.cell? ⟨B, 0, none⟩ = some (.slice none 0 0) ∧ w'.frozen? ⟨B, 0, none⟩ = false) := fun w' hB => by
    have hR := (hB.block B hBlt).trans h.hd
    exact ⟨by simp [World.cell?, hR], by simp [World.frozen?, hR]⟩
  obtain ⟨W0, hW0⟩ : ∃ W0, w.alloc (.cells #[.string ⟨fn.toArray⟩, .slice fa fd.length fc, .int .i64 fy] 37) = W0 := ⟨_, rfl⟩
  have HW0 : Hid (w.alloc (.cells #[.string ⟨fn.toArray⟩, .slice fa fd.length fc, .int .i64 fy] 37) = W0) := hW0
  have HS0 : Hid (W0.heap.size = w.heap.size + 1) := by show W0.heap.size = _; rw [← hW0]; simp
  have HBw0 : Hid (Below w.heap.size w W0) := by show Below w.heap.size w W0; rw [← hW0]; exact (Below.refl _ w).alloc (Nat.le_refl _) _
  have HFC : Hid (∀ w', Below W0.heap.size W0 w' → w'.cell? ⟨w.heap.size, 0, none⟩ = some (.string ⟨fn.toArray⟩) ∧ w'.cell? ⟨w.heap.size, 1, none⟩ = some (.slice fa fd.length fc) ∧ w'.cell? ⟨w.heap.size, 2, none⟩ = some (.int .i64 fy)) := fun w' hB => by
    have hh : W0.heap[w.heap.size]? = some (.cells #[.string ⟨fn.toArray⟩, .slice fa fd.length fc, .int .i64 fy] 37 (0, 0)) := by rw [← hW0]; exact heap_alloc_new w _
    have hR := (hB.block w.heap.size (by have := HS0.out; omega)).trans hh
    exact ⟨by simp [World.cell?, hR], by simp [World.cell?, hR], by simp [World.cell?, hR]⟩
  obtain ⟨i0, hi, hz0, hz1, hz2⟩ := info_parts info37
  clear h hW0
  go_enter Try.func54, Try.ntmps54
  go_wp2_with fail
  rw [HW0.out]
  go_loopw [4] (fun iv wr => iv = .int .i64 0 ∧ Below W0.heap.size W0 wr) (fun iv _ => 0)
  case atStart => exact ⟨rfl, Below.refl _ _⟩
  case round =>
    obtain ⟨rfl, hB⟩ := hrel
    have HB : Hid (Below W0.heap.size W0 wr) := hB
    obtain ⟨k0, -⟩ := HBC.out wr (HBw0.out.trans (hB.mono (by have := HS0.out; omega)))
    clear hB
    go_wp2_with fail
    go_quiet (fail)
    have HBX : Hid (Below W0.heap.size W0 (wr.drewN nq)) := HB.out.trans ⟨rfl, rfl, rfl, Nat.le_refl _, fun _ _ => rfl⟩
    clear k0
    generalize wr.drewN nq = wx at *
    have hB0 := HBX.out
    have hs0 : w.heap.size ≤ wx.heap.size := by have := hB0.size; have := HS0.out; omega
    have hBw : Below w.heap.size w wx := HBw0.out.trans (hB0.mono (by have := HS0.out; omega))
    have hb1 := hBw.alloc hs0 (.cells #[] 37)
    obtain ⟨k0, -⟩ := HBC.out (wx.alloc (.cells #[] 37)) hb1
    obtain ⟨f0, f1, f2⟩ := HFC.out (wx.alloc (.cells #[] 37)) (hB0.alloc hB0.size _)
    have hown0 : (wx.alloc (.cells #[] 37)).ownsRow w.heap.size 37 3 (.slice (some ⟨wx.heap.size, 0, none⟩) 0 0) 0 [] := ⟨rfl, .inr ⟨wx.heap.size, 0, #[], rfl, hs0, heap_alloc_new wx _, Nat.le_refl _, by unfold maxLen; omega, rfl, rfl⟩⟩
    go_wp2_with (first
      | (at_builtin; refine wpList_append_own _ rfl _ _ 28 rfl w.heap.size 37 i0 _ 3 48 Try.underlying28 hi hz0 hz1 hz2 rfl (by decide) _ 0 [] rfl (hown0.alloc _) ⟨wx.heap.size + 1, 0, none⟩ 1 1 [.string ⟨fn.toArray⟩, .slice fa fd.length fc, .int .i64 fy] rfl rfl (by simpa using cell_three_new (wx.alloc (.cells #[] 37)) (.string ⟨fn.toArray⟩) (.slice fa fd.length fc) (.int .i64 fy) 37) (by intro u hu; simp at hu; rcases hu with rfl | rfl | rfl <;> rfl) (by unfold maxLen; omega) (by omega) (by simp; omega) ?_; intro v2 w2 hown2 hg2 _; have hB2 : Below w.heap.size w w2 := (hb1.alloc hb1.size _).grown hg2 (by have := hb1.size; simp; omega) (fun j e => (hown0.lt j e).1); obtain ⟨x0, x4⟩ := HBC.out w2 hB2; rw [Nat.zero_add, List.nil_append] at hown2; obtain ⟨g2, c2, rfl, hc2⟩ := row_some hown2 (by omega))
      | fail)
    go_end0
    exact ⟨rfl, _, put_done (k := 0) (fs := []) HH.out hBlt hN hx hB2 (by simpa [cellsOf] using hown2) rfl (Nat.le_refl _)⟩
end Go.Proofs.Ytbjnhohfdpdcnaa
namespace Go.Proofs.Ytbjnhohfdpdcnaa
open Go.RowKit
set_option linter.unusedVariables false
set_option linter.unusedSimpArgs false

set_option maxRecDepth 100000 in
set_option maxHeartbeats 4000000 in
theorem refName_any (nm : List UInt8) (w : World) (hl : nm.length ≤ maxLen) : Calls Try.prog 52 #[.string ⟨nm.toArray⟩] w fun r w' => r = .returned (.bool (isNm nm)) ∧ w' = w := by
  unfold maxLen at hl
  have HI : Hid (nm.all (fun x => ofNm x.toNat) = true → isNm nm = (decide (1 ≤ nm.length) && decide (nm.length ≤ 32))) := fun h => by simp [isNm, h]
  go_enter Try.func52, Try.ntmps52
  go_wp2
  go_loopw [3] (fun iv wr => ∃ k : Nat, iv = .int .i64 (k : Int) ∧ k ≤ nm.length ∧ wr = w ∧ (nm.take k).all (fun x => ofNm x.toNat) = true) (fun iv _ => nm.length - (intOf iv).toNat)
  case atStart => exact ⟨0, rfl, Nat.zero_le _, rfl, by simp⟩
  case round =>
    obtain ⟨k, rfl, hk, rfl, hall⟩ := hrel
    have HA : Hid ((nm.take k).all (fun x => ofNm x.toNat) = true) := hall
    clear hall
    by_cases hlt : k < nm.length
    · have HX : Hid (nm.take (k + 1) = nm.take k ++ [nm[k]]) := List.take_succ_eq_append_getElem hlt
      have HZ : Hid (ofNm nm[k].toNat = false → isNm nm = false) := fun hx => by
        have : nm.all (fun x => ofNm x.toNat) = false := by
          rw [List.all_eq_false]
          exact ⟨nm[k], List.getElem_mem hlt, by simp [hx]⟩
        simp [isNm, this]
      have HB : Hid (({ data := nm.toArray } : ByteArray)[k].toNat = nm[k].toNat) := rfl
      go_wp2
      all_goals first
        | (go_ret; refine ⟨?_, rfl⟩; rw [HZ.out (by have hcv := HB.out; (try simp only [bne_iff_ne, ne_eq, bne_eq_false_iff_eq] at *); simp only [ofNm, Bool.or_eq_false_iff, Bool.and_eq_false_iff, decide_eq_false_iff_not]; omega)]; rfl)
        | (refine ⟨⟨k + 1, by go_num, by omega, trivial, ?_⟩, by simp [intOf]; omega⟩; rw [HX.out, List.all_append, HA.out]; have hof : ofNm nm[k].toNat = true := (by have hcv := HB.out; (try simp only [bne_iff_ne, ne_eq, bne_eq_false_iff_eq] at *); simp only [ofNm, Bool.or_eq_true, Bool.and_eq_true, decide_eq_true_eq]; omega); simpa using hof)
    · have hall := HA.out
      rw [List.take_of_length_le (by omega)] at hall
      have HE := HI.out hall
      by_cases h1 : 1 ≤ nm.length
      · by_cases h2 : nm.length ≤ 32
        · have HE2 : Hid (isNm nm = true) := by show isNm nm = true; rw [HE]; simp [h1, h2]
          clear hall HE
          go_wp2
          go_ret
          exact ⟨by rw [HE2.out]; show Ending.returned (.bool (decide ((nm.length : Int) ≤ 32))) = _; rw [decide_eq_true (by omega)], rfl⟩
        · have HE2 : Hid (isNm nm = false) := by show isNm nm = false; rw [HE]; simp [h2]
          clear hall HE
          go_wp2
          go_ret
          exact ⟨by rw [HE2.out]; show Ending.returned (.bool (decide ((nm.length : Int) ≤ 32))) = _; rw [decide_eq_false (by omega)], rfl⟩
      · have HE2 : Hid (isNm nm = false) := by show isNm nm = false; rw [HE]; simp [h1]
        clear hall HE
        go_wp2
        go_ret
        exact ⟨by rw [HE2.out]; rfl, rfl⟩
end Go.Proofs.Ytbjnhohfdpdcnaa
namespace Go.Proofs.Ytbjnhohfdpdcnaa
open Go.RowKit Go.Shelf
set_option linter.unusedVariables false

theorem says_nm : ∀ {fs : List Fl} {ps : List PF}, fs.map Fl.says = ps.map PF.says → ∀ nm, (∃ f ∈ fs, f.nm = nm) ↔ (lookP nm ps).isSome = true
  | [], [], _, nm => by simp [lookP]
  | [], _ :: _, h, _ => by simp at h
  | _ :: _, [], h, _ => by simp at h
  | f :: r, q :: s, h, nm => by
    simp only [List.map_cons, List.cons.injEq, Fl.says, PF.says, Prod.mk.injEq] at h
    have ih := says_nm h.2 nm
    unfold lookP at ih ⊢
    rw [List.find?_cons]
    by_cases hq : q.nm = nm
    · simp [hq, h.1.1]
    · have : (q.nm == nm) = false := by simpa using hq
      rw [this]
      simp only [List.mem_cons, exists_eq_or_imp, h.1.1, hq, false_or]
      exact ih
theorem sumF_ins (f : Fl) : ∀ fs : List Fl, sumF (insF f fs) = f.dat.length + sumF fs
  | [] => by simp [insF, sumF]
  | y :: q => by
    have ih := sumF_ins f q
    unfold insF
    split
    · simp only [sumF, List.map_cons, List.sum_cons] at *; omega
    · simp [sumF]
theorem len_ins (f : Fl) : ∀ fs : List Fl, (insF f fs).length = fs.length + 1
  | [] => rfl
  | y :: q => by
    have ih := len_ins f q
    unfold insF
    split <;> simp [ih]
/-- What Create leaves of the document's disk. -/
theorem create_rd {N : Nat} {w w' : World} {B : Nat} {p : PD} {v v' : Value} {fs : List Fl} {l nm : List UInt8} (h : RD N w B p v fs l) (hl : (nm == l) = false) (hnone : ∀ f ∈ fs, f.nm ≠ nm) (hfw : fs.length < 256)
    (hd : w'.heap[B]? = some (.cells #[v', .int .i64 (p.arm : Int), .bool p.dn, .string ⟨l.toArray⟩] 30 (0, 0))) (hfi : FilesIn N w' v' (insF ⟨nm, none, 0, [], 0⟩ fs)) : RD N w' B { p with fs := insP ⟨nm, [], 0, false⟩ p.fs } v' (insF ⟨nm, none, 0, [], 0⟩ fs) l := by
  have hps : ∀ q ∈ p.fs, q.nm ≠ nm := fun q hq e => by
    have : (lookP nm p.fs).isSome = true := by
      unfold lookP
      rw [List.find?_isSome]
      exact ⟨q, hq, by simpa using e⟩
    obtain ⟨f, hf, e2⟩ := (says_nm h.sy nm).2 this
    exact hnone f hf e2
  have hsy : (insF ⟨nm, none, 0, [], 0⟩ fs).map Fl.says = (insP ⟨nm, [], 0, false⟩ p.fs).map PF.says := insF_says ⟨nm, none, 0, [], 0⟩ ⟨nm, [], 0, false⟩ rfl h.sy hps
  refine ⟨h.le, hd, hfi, hsy, by rw [len_ins]; omega, ?_, ?_⟩
  · have e := sum_says hsy
    rw [sumF_ins, sum_says h.sy] at e
    have := h.sm
    simp at e
    show sumP (insP ⟨nm, [], 0, false⟩ p.fs) ≤ 16777216
    omega
  · intro f hf
    rcases mem_insP.1 hf with rfl | hf
    · exact hl.symm
    · exact h.la f hf

end Go.Proofs.Ytbjnhohfdpdcnaa
namespace Go.Proofs.Ytbjnhohfdpdcnaa
open Go.RowKit Go.Shelf
set_option linter.unusedVariables false

/-- Its own block was turned, the files stay. -/
theorem RD.turn {N : Nat} {w w' : World} {B : Nat} {p p' : PD} {v : Value} {fs : List Fl} {l : List UInt8} (h : RD N w B p v fs l) (hO : Out (· = B) w w') (hd : w'.heap[B]? = some (.cells #[v, .int .i64 (p'.arm : Int), .bool p'.dn, .string ⟨l.toArray⟩] 30 (0, 0))) (hfs : p'.fs = p.fs) : RD N w' B p' v fs l := by
  refine ⟨h.le, hd, ⟨row_out h.fi.row hO (fun g hg e => ?_), fun f hf => (h.fi.own f hf).out hO (fun g hg e => (h.fi.own f hf).not_at h.hd (by decide) (by rw [hg, e]))⟩, by rw [hfs]; exact h.sy, h.fw, by rw [hfs]; exact h.sm, by rw [hfs]; exact h.la⟩
  rcases h.fi.row.2 with ⟨rfl, _⟩ | ⟨g', cap, cur, rfl, _, hgb, _⟩
  · simp [Value.ownBlock] at hg
  · simp [Value.ownBlock] at hg
    subst hg e
    rw [h.hd] at hgb
    cases hgb

set_option maxRecDepth 100000 in
set_option maxHeartbeats 2000000 in
theorem refFails_any {N : Nat} {w : World} {B : Nat} {p : PD} {v : Value} {fs : List Fl} {l : List UInt8} (h : RD N w B p v fs l) (hm : p.arm ≤ 9223372036854775807) :
    Calls Try.prog 57 #[.pointer (some ⟨B, 0, none⟩)] w fun r w' => r = .returned (.bool p.fell) ∧ RD N w' B p.fail v fs l ∧ Out (· = B) w w' := by
  obtain ⟨k0, k1, k2, k3, f0, f1, f2, f3⟩ := h.cells
  rcases (show p.arm = 0 ∨ p.arm = 1 ∨ 2 ≤ p.arm by omega) with ha | ha | ha
  · have e1 : p.fell = false := by simp [PD.fell, ha]
    have e2 : p.fail = p := by simp [PD.fail, ha]
    rw [e1, e2]
    refine (refFails0_any h ha).mono ?_
    rintro r w' ⟨rfl, rfl⟩
    exact ⟨rfl, h, Out.refl _ _⟩
  · have HE : Hid (p.fell = true) := by show p.fell = true; simp [PD.fell, ha]
    have HP : Hid (p.fail.arm = 0 ∧ p.fail.dn = true) := by
      show p.fail.arm = 0 ∧ p.fail.dn = true
      simp [PD.fail, ha]
    rw [ha] at k1
    have HR : Hid (RD N ((w.setCell ⟨B, 1, none⟩ (.int .i64 ((0 : Nat) : Int))).setCell ⟨B, 2, none⟩ (.bool true)) B p.fail v fs l ∧ Out (· = B) w ((w.setCell ⟨B, 1, none⟩ (.int .i64 ((0 : Nat) : Int))).setCell ⟨B, 2, none⟩ (.bool true))) := by
      have e1 : Out (· = B) w ((w.setCell ⟨B, 1, none⟩ (.int .i64 ((0 : Nat) : Int))).setCell ⟨B, 2, none⟩ (.bool true)) := (Out.set (X := (· = B)) rfl).trans (Out.set (X := (· = B)) rfl) (fun i hi _ => hi)
      refine ⟨h.turn e1 ?_ (pd_fail_fs p), e1⟩
      have h1 := heap_set (heap_set h.hd 1 (.int .i64 ((0 : Nat) : Int))) 2 (.bool true)
      rw [HP.out.1, HP.out.2]
      simpa using h1
    clear h
    go_enter Try.func57, Try.ntmps57
    go_wp2
    go_ret
    exact ⟨by rw [HE.out]; rfl, HR.out⟩
  · have HE : Hid (p.fell = false) := by show p.fell = false; simp [PD.fell]; omega
    obtain ⟨n, hn⟩ : ∃ n, p.arm = n + 2 := ⟨p.arm - 2, by omega⟩
    have HP : Hid (p.fail.arm = n + 1 ∧ p.fail.dn = false) := by
      show p.fail.arm = n + 1 ∧ p.fail.dn = false
      simp [PD.fail, hn]
    rw [hn] at k1
    have hnb : n + 2 ≤ 9223372036854775807 := by omega
    have hn0 : (((n + 1 : Nat) : Int) == 0) = false := by simp; omega
    have hn1 : ((n : Int) + 1 == 0) = false := by simp; omega
    have HR : Hid (RD N ((w.setCell ⟨B, 1, none⟩ (.int .i64 ((n + 1 : Nat) : Int))).setCell ⟨B, 2, none⟩ (.bool false)) B p.fail v fs l ∧ Out (· = B) w ((w.setCell ⟨B, 1, none⟩ (.int .i64 ((n + 1 : Nat) : Int))).setCell ⟨B, 2, none⟩ (.bool false))) := by
      have e1 : Out (· = B) w ((w.setCell ⟨B, 1, none⟩ (.int .i64 ((n + 1 : Nat) : Int))).setCell ⟨B, 2, none⟩ (.bool false)) := (Out.set (X := (· = B)) rfl).trans (Out.set (X := (· = B)) rfl) (fun i hi _ => hi)
      refine ⟨h.turn e1 ?_ (pd_fail_fs p), e1⟩
      have h1 := heap_set (heap_set h.hd 1 (.int .i64 ((n + 1 : Nat) : Int))) 2 (.bool false)
      rw [HP.out.1, HP.out.2]
      simpa using h1
    clear h ha hn
    go_enter Try.func57, Try.ntmps57
    go_wp2
    go_ret
    have e1 : ((n : Int) + 2 - 1) = ((n + 1 : Nat) : Int) := by omega
    refine ⟨?_, ?_⟩
    · rw [HE.out]
      show Ending.returned (.bool ((n : Int) + 2 - 1 == 0)) = _
      rw [e1, hn0]
    · show RD N ((w.setCell ⟨B, 1, none⟩ (.int .i64 ((n : Int) + 2 - 1))).setCell ⟨B, 2, none⟩ (.bool ((n : Int) + 2 - 1 == 0))) B p.fail v fs l ∧ Out (· = B) w ((w.setCell ⟨B, 1, none⟩ (.int .i64 ((n : Int) + 2 - 1))).setCell ⟨B, 2, none⟩ (.bool ((n : Int) + 2 - 1 == 0)))
      rw [e1, hn0]
      exact HR.out
end Go.Proofs.Ytbjnhohfdpdcnaa
