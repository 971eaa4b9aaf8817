/-
  Read, and the document's Read and List; texts that are the same.
-/
import Derived.Test.YtbjnhohfdpdcnaaRf1
namespace Go.Proofs.Ytbjnhohfdpdcnaa
open Go.RowKit Go.Shelf
set_option linter.unusedVariables false

/-- What Read answers. -/
def rdP (p : PD) (nm : List UInt8) : List UInt8 × Nat := match lookP nm p.fs with | some f => (f.dat, 0) | none => ([], 8)

set_option maxRecDepth 100000 in
set_option maxHeartbeats 4000000 in
theorem read_any {S : Nat → Prop} {w : World} {d : Nat} {k : DS} (h : DkC S w d k) (nm : List UInt8) (hn : nm.length ≤ maxLen) : Calls Try.prog 44 #[.pointer (some ⟨d, 0, none⟩), .string ⟨nm.toArray⟩] w fun r w' => ∃ v, r = .returned (.tuple #[v, .int .i64 ((rdP k.pd nm).2 : Int)]) ∧ Ow w.heap.size w' v (rdP k.pd nm).1 ∧ Below w.heap.size w w' := by
  obtain ⟨⟨c0, c1, c2, c3⟩, f1, f2, f3⟩ := h.cells
  have hm := h.hm
  cases hf : look nm k.rs with
  | none =>
    have HE : Hid (rdP k.pd nm = ([], 8)) := by show rdP k.pd nm = _; unfold rdP; rw [look_pd, hf]; rfl
    clear h
    go_enter Try.func44, Try.ntmps44
    go_wp2_with (at_lookup; refine wpList_look_none rfl _ _ rfl _ _ _ rfl hm nm rfl hn hf ?_)
    go_ret2
    rw [HE.out]
    exact ⟨_, rfl, Ow.nil _ _, Below.refl _ _⟩
  | some r =>
    obtain ⟨hr, hrn⟩ := look_some hf
    have HE : Hid (rdP k.pd nm = (r.dat, 0)) := by show rdP k.pd nm = _; unfold rdP; rw [look_pd, hf]; rfl
    have hF := h.fs r hr
    obtain ⟨⟨g0, g1⟩, -⟩ := hF.cells
    obtain ⟨av, capv, hv, hlc, hcm⟩ := hF.own.shape
    have hown := hF.own
    rw [hv] at g0 hown
    have hfr := fresh_any w.heap.size _ r.dat w (hown.sl (Nat.le_refl _)) (by have h7 := sum_del_le hr; have := h.all; omega)
    clear h hF hv
    go_enter Try.func44, Try.ntmps44
    go_wp2_with (first
      | (at_lookup; refine wpList_look_some rfl _ _ rfl _ _ _ rfl hm nm rfl hn r hf ?_)
      | (go_at_call 51; refine hfr.mono ?_; rintro e w5 ⟨v5, rfl, hO5, hB5⟩; obtain ⟨ba, bc, rfl, -, -⟩ := hO5.shape)
      | fail)
    go_ret2
    rw [HE.out]
    exact ⟨_, rfl, hO5, hB5⟩
theorem read_dsk {N : Nat} {S : Nat → Prop} {w : World} {d : Nat} {p : PD} (h : Dsk N w S d p) (nm : List UInt8) (hn : nm.length ≤ maxLen) : Calls Try.prog 44 #[.pointer (some ⟨d, 0, none⟩), .string ⟨nm.toArray⟩] w fun r w' => ∃ v, r = .returned (.tuple #[v, .int .i64 ((rdP p nm).2 : Int)]) ∧ Ow w.heap.size w' v (rdP p nm).1 ∧ Below w.heap.size w w' := by
  obtain ⟨k, hk, rfl, hS⟩ := h
  exact read_any hk nm hn
theorem has_dsk {N : Nat} {S : Nat → Prop} {w : World} {d : Nat} {p : PD} (h : Dsk N w S d p) (nm : List UInt8) (hn : nm.length ≤ maxLen) : Calls Try.prog 46 #[.pointer (some ⟨d, 0, none⟩), .string ⟨nm.toArray⟩] w fun r w' => r = .returned (.bool (lookP nm p.fs).isSome) ∧ w' = w := by
  obtain ⟨k, hk, rfl, hS⟩ := h
  rw [look_pd, Option.isSome_map]
  exact has_any hk nm hn

set_option maxRecDepth 100000 in
set_option maxHeartbeats 4000000 in
theorem refRead {S : Nat → Prop} {w : World} {B : Nat} {p : PD} (h : RDs S w B p) (hg : Good p) (nm : List UInt8) : Calls Try.prog 45 #[.pointer (some ⟨B, 0, none⟩), .string ⟨nm.toArray⟩] w fun r w' => ∃ v, r = .returned (.tuple #[v, .int .i64 ((rdP p nm).2 : Int)]) ∧ Ow w.heap.size w' v (rdP p nm).1 ∧ Below w.heap.size w w' := by
  obtain ⟨v, fs, l, h⟩ := h
  have hat := refAt_any h.rd nm
  have k0 := h.rd.cells.1
  have HS := says_nm h.rd.sy nm
  obtain ⟨va, vc, hv⟩ := row_shape h.rd.fi.row
  have HH : Hid (Rdo S w B p v fs l) := h
  by_cases h2 : (lookP nm p.fs).isSome = true
  · have HX : Hid (∃ f ∈ fs, f.nm = nm) := HS.2 h2
    obtain ⟨q, hq⟩ := Option.isSome_iff_exists.1 h2
    have HE : Hid (rdP p nm = (q.dat, 0)) := by show rdP p nm = _; unfold rdP; rw [hq]
    have HLK : Hid (∀ j, j < fs.length → (fs.getD j nilFl).nm = nm → q.says = (fs.getD j nilFl).says) := fun j hj hjn => by
      obtain ⟨q', h1, h3, h4⟩ := look_at h.rd.sy hj (rise_ne hg.rise)
      rw [hjn, hq] at h1
      cases h1
      exact h4
    have HAT : Hid (∀ {j : Nat}, j < fs.length → ∃ g cap, v = .slice (some ⟨g, 0, none⟩) fs.length cap ∧ fs.length ≤ cap ∧ cap ≤ maxLen ∧ g ≠ B ∧ FlAt w.heap.size w g (j * 3) (fs.getD j nilFl) ∧ (∀ i, w.frozen? ⟨g, i, none⟩ = false) ∧ (∃ cs, w.heap[g]? = some (.cells cs 37 (0, 0)))) := fun hj => h.rd.at hj
    have HFW : Hid (∀ j, j < fs.length → (fs.getD j nilFl).dat.length ≤ 16777216) := fun j hj => by have h1 := sumF_mem hj; have h2 := sum_says h.rd.sy; have := h.rd.sm; show _ ≤ _; omega
    clear h HS h2 hq
    subst hv
    go_enter Try.func45, Try.ntmps45
    go_wp2_with (first
      | (go_at_call 53; refine hat.mono ?_; rintro r w' ⟨i, rfl, hi, hw⟩; subst w'; obtain ⟨j, rfl, hj, hjn⟩ := at_pos hi HX.out; have hi0 : (0 : Int) ≤ (j : Int) := (by omega); have hi1 : (j : Int) < (fs.length : Int) := (by omega); obtain ⟨g, gc, hv2, hg1, hg2, hgB, hat2, hfz, -⟩ := HAT.out hj; cases hv2; obtain ⟨c0, c1, c2, csl⟩ := hat2; unfold Fl.x at c1 csl; have hlk := HLK.out j hj hjn; have hfd := HFW.out j hj; generalize fs.getD j nilFl = f at *; have HLD : Hid (q.dat = f.dat) := (by simp only [Fl.says, PF.says, Prod.mk.injEq] at hlk; exact hlk.2.1); have hby := bytes_any w.heap.size (.slice f.a f.dat.length f.c) f.dat w csl (Nat.le_refl _) (by omega); clear hi hlk csl)
      | (go_at_call 49; refine hby.mono ?_; rintro e w5 ⟨v5, rfl, hO5, hB5⟩; obtain ⟨ba, bc, rfl, -, -⟩ := hO5.shape)
      | fail)
    go_ret2
    rw [HE.out]
    simp only
    rw [HLD.out]
    exact ⟨_, rfl, hO5, hB5⟩
  · have hnone : lookP nm p.fs = none := by simpa using h2
    have HE : Hid (rdP p nm = ([], 8)) := by show rdP p nm = _; unfold rdP; rw [hnone]
    have HX : Hid (∀ f ∈ fs, f.nm ≠ nm) := fun f hf e => h2 (HS.1 ⟨f, hf, e⟩)
    clear h HS h2 hnone
    subst hv
    go_enter Try.func45, Try.ntmps45
    go_wp2_with (first
      | (go_at_call 53; refine hat.mono ?_; rintro r w' ⟨i, rfl, hi, hw⟩; subst w'; have hi0 : i < (0 : Int) := at_neg hi HX.out; clear hi)
      | fail)
    go_ret2
    rw [HE.out]
    exact ⟨_, rfl, Ow.nil _ _, Below.refl _ _⟩

theorem take_succ_map {fs : List Fl} {k : Nat} (h : k < fs.length) : (fs.take (k + 1)).map Fl.nm = (fs.take k).map Fl.nm ++ [(fs.getD k nilFl).nm] := by rw [take_fl h]; simp

set_option maxRecDepth 100000 in
set_option maxHeartbeats 4000000 in
theorem refList {w : World} {B : Nat} {p : PD} {v : Value} {fs : List Fl} {l : List UInt8} (h : RD 0 w B p v fs l) : Calls Try.prog 48 #[.pointer (some ⟨B, 0, none⟩)] w fun r w' => ∃ a c, r = .returned (.slice a p.fs.length c) ∧ TextsIn w.heap.size w' (.slice a p.fs.length c) (p.fs.map PF.nm) ∧ Below w.heap.size w w' := by
  obtain ⟨va, vc, hv⟩ := row_shape h.fi.row
  obtain ⟨a', c', hv', -, -, hF⟩ := h.fi.at
  have HF : Hid (∀ w', Below w.heap.size w w' → FlsAt w.heap.size w' a' fs) := fun w' hB => hF.below hB
  have HK : Hid (∀ w', Below w.heap.size w w' → w'.cell? ⟨B, 0, none⟩ = some v) := fun w' hB => (hB.cell (p := ⟨B, 0, none⟩) h.lt).trans h.cells.1
  have HNM : Hid (fs.map Fl.nm = p.fs.map PF.nm) := says_nms h.sy
  have hfw := h.fw
  rw [hv] at hv'
  cases hv'
  obtain ⟨i0, hi, hz0, hz1, hz2⟩ := info_parts info9
  subst hv
  clear h hF
  go_enter Try.func48, Try.ntmps48
  go_wp2_with fail
  go_loopw [3, 4] (fun sv iv wr => ∃ (k : Nat), iv = .int .i64 (k : Int) ∧ k ≤ fs.length ∧ wr.ownsRow w.heap.size 9 1 sv k (((fs.take k).map Fl.nm).map encStr) ∧ Below w.heap.size w wr) (fun _ iv _ => fs.length - (intOf iv).toNat)
  case atStart => exact ⟨0, rfl, Nat.zero_le _, by simpa using World.ownsRow_nil _ _ _ _, Below.refl _ _⟩
  case round =>
    obtain ⟨k, rfl, hk, hrow, hB⟩ := hrel
    have HB : Hid (Below w.heap.size w wr) := hB
    have HROW : Hid (wr.ownsRow w.heap.size 9 1 u3 k (((fs.take k).map Fl.nm).map encStr)) := hrow
    have k0 := HK.out wr hB
    obtain ⟨ra, rc, hu⟩ := row_shape hrow
    subst hu
    by_cases hlt : k < fs.length
    · have hi0 : (0 : Int) ≤ (k : Int) := by omega
      have hi1 : (k : Int) < (fs.length : Int) := by omega
      obtain ⟨b, off, ha, hb, c0, -, -, -⟩ := (HF.out wr hB).at hlt
      subst ha
      have HT : Hid ((fs.take (k + 1)).map Fl.nm = (fs.take k).map Fl.nm ++ [(fs.getD k nilFl).nm]) := take_succ_map hlt
      generalize (fs.getD k nilFl).nm = nm at *
      have hsz := hB.size
      clear hB
      go_wp2_with (first
        | (at_builtin; refine wpList_append_own _ rfl _ _ 47 rfl w.heap.size 9 i0 (.string ByteArray.empty) 1 16 Try.underlying47 hi hz0 hz1 hz2 rfl (by decide) _ _ _ rfl (World.ownsRow.alloc hrow _) ⟨wr.heap.size, 0, none⟩ 1 1 [.string ⟨nm.toArray⟩] rfl rfl (cell_one_new _ _ _) (by simp [Value.oneCell']) (by unfold maxLen; omega) (by omega) (by simp; omega) ?_; intro v' w3 hown3 hg3 _)
        | fail)
      have hB3 : Below w.heap.size w w3 := (HB.out.alloc hsz _).grown hg3 (by simp; omega) (fun j hj => (World.ownsRow.lt hrow j hj).1)
      exact ⟨⟨k + 1, by go_num, by omega, by rw [HT.out]; simpa [encStr] using hown3, hB3⟩, by simp [intOf]; omega⟩
    · have hge : decide ((k : Int) < (fs.length : Int)) = false := by simp; omega
      have HKE : Hid (k = p.fs.length) := by
        show k = p.fs.length
        have := congrArg List.length HNM.out
        simp only [List.length_map] at this
        omega
      have HT : Hid (fs.take k = fs) := List.take_of_length_le (by omega)
      clear hB hrow
      go_wp2
      go_ret
      have h9 := HROW.out
      rw [HT.out, HNM.out] at h9
      have hkk := HKE.out
      subst hkk
      refine ⟨_, _, rfl, ?_, HB.out⟩
      unfold TextsIn
      rw [List.length_map]
      exact h9

/-- Texts in a row. -/
theorem TextsIn.at {N : Nat} {w : World} {a : Option Addr} {n c : Nat} {ts : List (List UInt8)} (h : TextsIn N w (.slice a n c) ts) (hn : ts.length = n) {i : Nat} (hi : i < n) : ∃ b, a = some ⟨b, 0, none⟩ ∧ n ≤ c ∧ w.cell? ⟨b, i, none⟩ = some (.string ⟨(ts.getD i []).toArray⟩) ∧ w.frozen? ⟨b, i, none⟩ = false := by
  subst hn
  obtain ⟨g, c', e, hc⟩ := row_some h (by omega)
  cases e
  refine ⟨g, rfl, hc, ?_, World.ownsRow.frozenAt h i⟩
  have := World.ownsRow.cellAt h i (by omega)
  rw [this, List.getElem?_map, List.getElem?_eq_getElem hi, List.getD_eq_getElem?_getD, List.getElem?_eq_getElem hi]
  rfl

set_option maxRecDepth 100000 in
set_option maxHeartbeats 4000000 in
theorem sameTexts_true {N M : Nat} {w : World} {a b : Option Addr} {n c e : Nat} {ts : List (List UInt8)} (h1 : TextsIn N w (.slice a n c) ts) (h2 : TextsIn M w (.slice b n e) ts) (hn : ts.length = n) (hm : n ≤ 1000000) : Calls Try.prog 47 #[.slice a n c, .slice b n e] w fun r w' => r = .returned (.bool true) ∧ Below w.heap.size w w' := by
  have H1 : Hid (TextsIn N w (.slice a n c) ts) := h1
  have H2 : Hid (TextsIn M w (.slice b n e) ts) := h2
  have HN : Hid (ts.length = n) := hn
  have HB0 : Hid (∀ {N : Nat} {a : Option Addr} {c : Nat} {wr : World}, TextsIn N w (.slice a n c) ts → Below w.heap.size w wr → TextsIn N wr (.slice a n c) ts) := fun h hB => row_below h hB
  clear h1 h2 hn
  go_enter Try.func47, Try.ntmps47
  go_wp2_with fail
  go_loopw [5] (fun iv wr => ∃ (k : Nat), iv = .int .i64 (k : Int) ∧ k ≤ n ∧ Below w.heap.size w wr) (fun iv _ => n - (intOf iv).toNat)
  case atStart => exact ⟨0, rfl, Nat.zero_le _, Below.refl _ _⟩
  case round =>
    obtain ⟨k, rfl, hk, hB⟩ := hrel
    have HB : Hid (Below w.heap.size w wr) := hB
    by_cases hlt : k < n
    · have hi0 : (0 : Int) ≤ (k : Int) := by omega
      have hi1 : (k : Int) < (n : Int) := by omega
      obtain ⟨b1, rfl, -, g1, -⟩ := (HB0.out H1.out hB).at HN.out hlt
      obtain ⟨b2, rfl, -, g2, -⟩ := (HB0.out H2.out hB).at HN.out hlt
      generalize ts.getD k [] = nm at *
      clear hB
      go_wp2_with fail
      go_quiet (fail)
      go_wp2
      exact ⟨⟨k + 1, by go_num, by omega, HB.out.trans ⟨rfl, rfl, rfl, Nat.le_refl _, fun _ _ => rfl⟩⟩, by simp [intOf]; omega⟩
    · have hge : decide ((k : Int) < (n : Int)) = false := by simp; omega
      clear hB
      go_wp2
      go_ret
      exact ⟨rfl, HB.out⟩
end Go.Proofs.Ytbjnhohfdpdcnaa
