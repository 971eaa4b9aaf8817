/-
  Read, and the document's Read and List; texts that are the same. DiskFull: the walk of the law. What is lent, and kept. Same: what was answered is written over; nothing of the disks' turns. Same of both disks: true.
-/
import Derived.Test.YtadajbdmlmickaaGreatDoorKrc
namespace Go.Proofs.YtadajbdmlmickaaGreatDoor
open Go.RowKit Go.Shelf
set_option linter.unusedVariables false

/-- What Read answers. -/
def rdP (p : PD) (nm : List UInt8) : List UInt8 × Nat := match lookP nm p.fs with | some f => (f.dat, 0) | none => ([], 8)

set_option maxRecDepth 100000 in
set_option maxHeartbeats 4000000 in
theorem read_any {S : Nat → Prop} {w : World} {d : Nat} {k : DS} (h : DkC S w d k) (nm : List UInt8) (hn : nm.length ≤ maxLen) : Calls Tryz.prog 79 #[.pointer (some ⟨d, 0, none⟩), .string ⟨nm.toArray⟩] w fun r w' => ∃ v, r = .returned (.tuple #[v, .int .i64 ((rdP k.pd nm).2 : Int)]) ∧ Ow w.heap.size w' v (rdP k.pd nm).1 ∧ Below w.heap.size w w' := by
  obtain ⟨⟨c0, c1, c2, c3⟩, f1, f2, f3⟩ := h.cells
  have hm := h.hm
  cases hf : look nm k.rs with
  | none =>
    have HE : Hid (rdP k.pd nm = ([], 8)) := by show rdP k.pd nm = _; unfold rdP; rw [look_pd, hf]; rfl
    clear h
    go_enter Tryz.func79, Tryz.ntmps79
    go_wp2_with (at_lookup; refine wpList_look_none rfl _ _ rfl _ _ _ rfl hm nm rfl hn hf ?_)
    go_ret2
    rw [HE.out]
    exact ⟨_, rfl, Ow.nil _ _, Below.refl _ _⟩
  | some r =>
    obtain ⟨hr, hrn⟩ := look_some hf
    have HE : Hid (rdP k.pd nm = (r.dat, 0)) := by show rdP k.pd nm = _; unfold rdP; rw [look_pd, hf]; rfl
    have hF := h.fs r hr
    obtain ⟨⟨g0, g1⟩, -⟩ := hF.cells
    obtain ⟨av, capv, hv, hlc, hcm⟩ := hF.own.shape
    have hown := hF.own
    rw [hv] at g0 hown
    have hfr := fresh_any w.heap.size _ r.dat w (hown.sl (Nat.le_refl _)) (by have h7 := sum_del_le hr; have := h.all; omega)
    clear h hF hv
    go_enter Tryz.func79, Tryz.ntmps79
    go_wp2_with (first
      | (at_lookup; refine wpList_look_some rfl _ _ rfl _ _ _ rfl hm nm rfl hn r hf ?_)
      | (go_at_call 68; refine hfr.mono ?_; rintro e w5 ⟨v5, rfl, hO5, hB5⟩; obtain ⟨ba, bc, rfl, -, -⟩ := hO5.shape)
      | fail)
    go_ret2
    rw [HE.out]
    exact ⟨_, rfl, hO5, hB5⟩
theorem read_dsk {N : Nat} {S : Nat → Prop} {w : World} {d : Nat} {p : PD} (h : Dsk N w S d p) (nm : List UInt8) (hn : nm.length ≤ maxLen) : Calls Tryz.prog 79 #[.pointer (some ⟨d, 0, none⟩), .string ⟨nm.toArray⟩] w fun r w' => ∃ v, r = .returned (.tuple #[v, .int .i64 ((rdP p nm).2 : Int)]) ∧ Ow w.heap.size w' v (rdP p nm).1 ∧ Below w.heap.size w w' := by
  obtain ⟨k, hk, rfl, hS⟩ := h
  exact read_any hk nm hn
theorem has_dsk {N : Nat} {S : Nat → Prop} {w : World} {d : Nat} {p : PD} (h : Dsk N w S d p) (nm : List UInt8) (hn : nm.length ≤ maxLen) : Calls Tryz.prog 57 #[.pointer (some ⟨d, 0, none⟩), .string ⟨nm.toArray⟩] w fun r w' => r = .returned (.bool (lookP nm p.fs).isSome) ∧ w' = w := by
  obtain ⟨k, hk, rfl, hS⟩ := h
  rw [look_pd, Option.isSome_map]
  exact has_any hk nm hn

set_option maxRecDepth 100000 in
set_option maxHeartbeats 4000000 in
theorem refRead {S : Nat → Prop} {w : World} {B : Nat} {p : PD} (h : RDs S w B p) (hg : Good p) (nm : List UInt8) : Calls Tryz.prog 42 #[.pointer (some ⟨B, 0, none⟩), .string ⟨nm.toArray⟩] w fun r w' => ∃ v, r = .returned (.tuple #[v, .int .i64 ((rdP p nm).2 : Int)]) ∧ Ow w.heap.size w' v (rdP p nm).1 ∧ Below w.heap.size w w' := by
  obtain ⟨v, fs, l, h⟩ := h
  have hat := refAt_any h.rd nm
  have k0 := h.rd.cells.1
  have HS := says_nm h.rd.sy nm
  obtain ⟨va, vc, hv⟩ := row_shape h.rd.fi.row
  have HH : Hid (Rdo S w B p v fs l) := h
  by_cases h2 : (lookP nm p.fs).isSome = true
  · have HX : Hid (∃ f ∈ fs, f.nm = nm) := HS.2 h2
    obtain ⟨q, hq⟩ := Option.isSome_iff_exists.1 h2
    have HE : Hid (rdP p nm = (q.dat, 0)) := by show rdP p nm = _; unfold rdP; rw [hq]
    have HLK : Hid (∀ j, j < fs.length → (fs.getD j nilFl).nm = nm → q.says = (fs.getD j nilFl).says) := fun j hj hjn => by
      obtain ⟨q', h1, h3, h4⟩ := look_at h.rd.sy hj (rise_ne hg.rise)
      rw [hjn, hq] at h1
      cases h1
      exact h4
    have HAT : Hid (∀ {j : Nat}, j < fs.length → ∃ g cap, v = .slice (some ⟨g, 0, none⟩) fs.length cap ∧ fs.length ≤ cap ∧ cap ≤ maxLen ∧ g ≠ B ∧ FlAt w.heap.size w g (j * 3) (fs.getD j nilFl) ∧ (∀ i, w.frozen? ⟨g, i, none⟩ = false) ∧ (∃ cs, w.heap[g]? = some (.cells cs 71 (0, 0)))) := fun hj => h.rd.at hj
    have HFW : Hid (∀ j, j < fs.length → (fs.getD j nilFl).dat.length ≤ 16777216) := fun j hj => by have h1 := sumF_mem hj; have h2 := sum_says h.rd.sy; have := h.rd.sm; show _ ≤ _; omega
    clear h HS h2 hq
    subst hv
    go_enter Tryz.func42, Tryz.ntmps42
    go_wp2_with (first
      | (go_at_call 82; refine hat.mono ?_; rintro r w' ⟨i, rfl, hi, hw⟩; subst w'; obtain ⟨j, rfl, hj, hjn⟩ := at_pos hi HX.out; have hi0 : (0 : Int) ≤ (j : Int) := (by omega); have hi1 : (j : Int) < (fs.length : Int) := (by omega); obtain ⟨g, gc, hv2, hg1, hg2, hgB, hat2, hfz, -⟩ := HAT.out hj; cases hv2; obtain ⟨c0, c1, c2, csl⟩ := hat2; unfold Fl.x at c1 csl; have hlk := HLK.out j hj hjn; have hfd := HFW.out j hj; generalize fs.getD j nilFl = f at *; have HLD : Hid (q.dat = f.dat) := (by simp only [Fl.says, PF.says, Prod.mk.injEq] at hlk; exact hlk.2.1); have hby := bytes_any w.heap.size (.slice f.a f.dat.length f.c) f.dat w csl (Nat.le_refl _) (by omega); clear hi hlk csl)
      | (go_at_call 69; refine hby.mono ?_; rintro e w5 ⟨v5, rfl, hO5, hB5⟩; obtain ⟨ba, bc, rfl, -, -⟩ := hO5.shape)
      | fail)
    go_ret2
    rw [HE.out]
    simp only
    rw [HLD.out]
    exact ⟨_, rfl, hO5, hB5⟩
  · have hnone : lookP nm p.fs = none := by simpa using h2
    have HE : Hid (rdP p nm = ([], 8)) := by show rdP p nm = _; unfold rdP; rw [hnone]
    have HX : Hid (∀ f ∈ fs, f.nm ≠ nm) := fun f hf e => h2 (HS.1 ⟨f, hf, e⟩)
    clear h HS h2 hnone
    subst hv
    go_enter Tryz.func42, Tryz.ntmps42
    go_wp2_with (first
      | (go_at_call 82; refine hat.mono ?_; rintro r w' ⟨i, rfl, hi, hw⟩; subst w'; have hi0 : i < (0 : Int) := at_neg hi HX.out; clear hi)
      | fail)
    go_ret2
    rw [HE.out]
    exact ⟨_, rfl, Ow.nil _ _, Below.refl _ _⟩

theorem take_succ_map {fs : List Fl} {k : Nat} (h : k < fs.length) : (fs.take (k + 1)).map Fl.nm = (fs.take k).map Fl.nm ++ [(fs.getD k nilFl).nm] := by rw [take_fl h]; simp

set_option maxRecDepth 100000 in
set_option maxHeartbeats 4000000 in
theorem refList {w : World} {B : Nat} {p : PD} {v : Value} {fs : List Fl} {l : List UInt8} (h : RD 0 w B p v fs l) : Calls Tryz.prog 47 #[.pointer (some ⟨B, 0, none⟩)] w fun r w' => ∃ a c, r = .returned (.slice a p.fs.length c) ∧ TextsIn w.heap.size w' (.slice a p.fs.length c) (p.fs.map PF.nm) ∧ Below w.heap.size w w' := by
  obtain ⟨va, vc, hv⟩ := row_shape h.fi.row
  obtain ⟨a', c', hv', -, -, hF⟩ := h.fi.at
  have HF : Hid (∀ w', Below w.heap.size w w' → FlsAt w.heap.size w' a' fs) := fun w' hB => hF.below hB
  have HK : Hid (∀ w', Below w.heap.size w w' → w'.cell? ⟨B, 0, none⟩ = some v) := fun w' hB => (hB.cell (p := ⟨B, 0, none⟩) h.lt).trans h.cells.1
  have HNM : Hid (fs.map Fl.nm = p.fs.map PF.nm) := says_nms h.sy
  have hfw := h.fw
  rw [hv] at hv'
  cases hv'
  obtain ⟨i0, hi, hz0, hz1, hz2⟩ := info_parts info9
  subst hv
  clear h hF
  go_enter Tryz.func47, Tryz.ntmps47
  go_wp2_with fail
  go_loopw [3, 4] (fun sv iv wr => ∃ (k : Nat), iv = .int .i64 (k : Int) ∧ k ≤ fs.length ∧ wr.ownsRow w.heap.size 9 1 sv k (((fs.take k).map Fl.nm).map encStr) ∧ Below w.heap.size w wr) (fun _ iv _ => fs.length - (intOf iv).toNat)
  case atStart => exact ⟨0, rfl, Nat.zero_le _, by simpa using World.ownsRow_nil _ _ _ _, Below.refl _ _⟩
  case round =>
    obtain ⟨k, rfl, hk, hrow, hB⟩ := hrel
    have HB : Hid (Below w.heap.size w wr) := hB
    have HROW : Hid (wr.ownsRow w.heap.size 9 1 u3 k (((fs.take k).map Fl.nm).map encStr)) := hrow
    have k0 := HK.out wr hB
    obtain ⟨ra, rc, hu⟩ := row_shape hrow
    subst hu
    by_cases hlt : k < fs.length
    · have hi0 : (0 : Int) ≤ (k : Int) := by omega
      have hi1 : (k : Int) < (fs.length : Int) := by omega
      obtain ⟨b, off, ha, hb, c0, -, -, -⟩ := (HF.out wr hB).at hlt
      subst ha
      have HT : Hid ((fs.take (k + 1)).map Fl.nm = (fs.take k).map Fl.nm ++ [(fs.getD k nilFl).nm]) := take_succ_map hlt
      generalize (fs.getD k nilFl).nm = nm at *
      have hsz := hB.size
      clear hB
      go_wp2_with (first
        | (at_builtin; refine wpList_append_own _ rfl _ _ 91 rfl w.heap.size 9 i0 (.string ByteArray.empty) 1 16 Tryz.underlying91 hi hz0 hz1 hz2 rfl (by decide) _ _ _ rfl (World.ownsRow.alloc hrow _) ⟨wr.heap.size, 0, none⟩ 1 1 [.string ⟨nm.toArray⟩] rfl rfl (cell_one_new _ _ _) (by simp [Value.oneCell']) (by unfold maxLen; omega) (by omega) (by simp; omega) ?_; intro v' w3 hown3 hg3 _)
        | fail)
      have hB3 : Below w.heap.size w w3 := (HB.out.alloc hsz _).grown hg3 (by simp; omega) (fun j hj => (World.ownsRow.lt hrow j hj).1)
      exact ⟨⟨k + 1, by go_num, by omega, by rw [HT.out]; simpa [encStr] using hown3, hB3⟩, by simp [intOf]; omega⟩
    · have hge : decide ((k : Int) < (fs.length : Int)) = false := by simp; omega
      have HKE : Hid (k = p.fs.length) := by
        show k = p.fs.length
        have := congrArg List.length HNM.out
        simp only [List.length_map] at this
        omega
      have HT : Hid (fs.take k = fs) := List.take_of_length_le (by omega)
      clear hB hrow
      go_wp2
      go_ret
      have h9 := HROW.out
      rw [HT.out, HNM.out] at h9
      have hkk := HKE.out
      subst hkk
      refine ⟨_, _, rfl, ?_, HB.out⟩
      unfold TextsIn
      rw [List.length_map]
      exact h9

/-- Texts in a row. -/
theorem TextsIn.at {N : Nat} {w : World} {a : Option Addr} {n c : Nat} {ts : List (List UInt8)} (h : TextsIn N w (.slice a n c) ts) (hn : ts.length = n) {i : Nat} (hi : i < n) : ∃ b, a = some ⟨b, 0, none⟩ ∧ n ≤ c ∧ w.cell? ⟨b, i, none⟩ = some (.string ⟨(ts.getD i []).toArray⟩) ∧ w.frozen? ⟨b, i, none⟩ = false := by
  subst hn
  obtain ⟨g, c', e, hc⟩ := row_some h (by omega)
  cases e
  refine ⟨g, rfl, hc, ?_, World.ownsRow.frozenAt h i⟩
  have := World.ownsRow.cellAt h i (by omega)
  rw [this, List.getElem?_map, List.getElem?_eq_getElem hi, List.getD_eq_getElem?_getD, List.getElem?_eq_getElem hi]
  rfl

set_option maxRecDepth 100000 in
set_option maxHeartbeats 4000000 in
theorem sameTexts_true {N M : Nat} {w : World} {a b : Option Addr} {n c e : Nat} {ts : List (List UInt8)} (h1 : TextsIn N w (.slice a n c) ts) (h2 : TextsIn M w (.slice b n e) ts) (hn : ts.length = n) (hm : n ≤ 1000000) : Calls Tryz.prog 49 #[.slice a n c, .slice b n e] w fun r w' => r = .returned (.bool true) ∧ Below w.heap.size w w' := by
  have H1 : Hid (TextsIn N w (.slice a n c) ts) := h1
  have H2 : Hid (TextsIn M w (.slice b n e) ts) := h2
  have HN : Hid (ts.length = n) := hn
  have HB0 : Hid (∀ {N : Nat} {a : Option Addr} {c : Nat} {wr : World}, TextsIn N w (.slice a n c) ts → Below w.heap.size w wr → TextsIn N wr (.slice a n c) ts) := fun h hB => row_below h hB
  clear h1 h2 hn
  go_enter Tryz.func49, Tryz.ntmps49
  go_wp2_with fail
  go_loopw [5] (fun iv wr => ∃ (k : Nat), iv = .int .i64 (k : Int) ∧ k ≤ n ∧ Below w.heap.size w wr) (fun iv _ => n - (intOf iv).toNat)
  case atStart => exact ⟨0, rfl, Nat.zero_le _, Below.refl _ _⟩
  case round =>
    obtain ⟨k, rfl, hk, hB⟩ := hrel
    have HB : Hid (Below w.heap.size w wr) := hB
    by_cases hlt : k < n
    · have hi0 : (0 : Int) ≤ (k : Int) := by omega
      have hi1 : (k : Int) < (n : Int) := by omega
      obtain ⟨b1, rfl, -, g1, -⟩ := (HB0.out H1.out hB).at HN.out hlt
      obtain ⟨b2, rfl, -, g2, -⟩ := (HB0.out H2.out hB).at HN.out hlt
      generalize ts.getD k [] = nm at *
      clear hB
      go_wp2_with fail
      go_quiet (fail)
      go_wp2
      exact ⟨⟨k + 1, by go_num, by omega, HB.out.trans ⟨rfl, rfl, rfl, Nat.le_refl _, fun _ _ => rfl⟩⟩, by simp [intOf]; omega⟩
    · have hge : decide ((k : Int) < (n : Int)) = false := by simp; omega
      clear hB
      go_wp2
      go_ret
      exact ⟨rfl, HB.out⟩
end Go.Proofs.YtadajbdmlmickaaGreatDoor
namespace Go.Proofs.YtadajbdmlmickaaGreatDoor
open Go.RowKit Go.Shelf
set_option linter.unusedVariables false

/-- Texts, in blocks below N. -/
def TsAt (N : Nat) (w : World) (a : Option Addr) (ts : List (List UInt8)) : Prop :=
  ts = [] ∨ ∃ b off, a = some ⟨b, off, none⟩ ∧ b < N ∧ ∀ i, i < ts.length → w.cell? ⟨b, off + i, none⟩ = some (.string ⟨(ts.getD i []).toArray⟩) ∧ (ts.getD i []).length ≤ maxLen
theorem TsAt.at {N : Nat} {w w' : World} {a : Option Addr} {ts : List (List UInt8)} (h : TsAt N w a ts) (hB : Below N w w') {i : Nat} (hi : i < ts.length) : ∃ b off, a = some ⟨b, off, none⟩ ∧ b < N ∧ w'.cell? ⟨b, off + i, none⟩ = some (.string ⟨(ts.getD i []).toArray⟩) ∧ (ts.getD i []).length ≤ maxLen := by
  rcases h with rfl | ⟨b, off, ha, hb, hc⟩
  · simp at hi
  · exact ⟨b, off, ha, hb, (hB.cell (p := ⟨b, off + i, none⟩) hb).trans (hc i hi).1, (hc i hi).2⟩
/-- A new disk of the document's. -/
theorem rd_new (w : World) : RDs (fun i => i = w.heap.size) (w.alloc (.cells #[.slice none 0 0, .int .i64 0, .bool false, .string ⟨#[]⟩] 30)) w.heap.size ⟨[], 0, false⟩ := by
  refine ⟨.slice none 0 0, [], [], ⟨Nat.zero_le _, heap_alloc_new w _, ⟨World.ownsRow_nil _ _ _ _, by simp⟩, rfl, by simp, by simp [sumP], by simp⟩, rfl, fun g hg => by simp [Value.ownBlock] at hg, by simp, fun i hi => by subst hi; simp, .inl rfl⟩
theorem good_nil : Good ⟨[], 0, false⟩ := ⟨List.Pairwise.nil, fun f hf => by simp at hf, fun f hf => by simp at hf, by simp⟩
theorem Bth.new {N : Nat} {w0 w w4 : World} (hB : Below N w0 w) (hN : N ≤ w0.heap.size) (hd : Dsk N w4 (fun i => w.heap.size ≤ i ∧ i < w.heap.size + 2) (w.heap.size + 1) ⟨[], 0, false⟩) (hB4 : Below w.heap.size w w4) : Bth N (fun i => w.heap.size ≤ i ∧ i < w.heap.size + 2) (fun i => i = w4.heap.size) w0 (w4.alloc (.cells #[.slice none 0 0, .int .i64 0, .bool false, .string ⟨#[]⟩] 30)) (w.heap.size + 1) w4.heap.size ⟨[], 0, false⟩ := by
  have h1 := hB.size
  have h2 := hB4.size
  have hB5 : Below w4.heap.size w4 (w4.alloc (.cells #[.slice none 0 0, .int .i64 0, .bool false, .string ⟨#[]⟩] 30)) := (Below.refl _ _).alloc (Nat.le_refl _) _
  exact ⟨hd.below hB5, rd_new w4, fun j hj e => by have := hd.inn j hj; omega, fun j hj => by omega, (hB.trans (hB4.mono (by omega))).trans (hB5.mono (by omega)), hN, good_nil⟩

theorem SlX.of_ow {S : Nat → Prop} {N : Nat} {w : World} {v : Value} {l : List UInt8} (h : Ow N w v l) (hx : ∀ g, v.ownBlock = some g → ¬ S g) : SlX S w v l := by
  obtain ⟨a, cap, e, h1, h2, h3⟩ := h.sl (Nat.le_refl _)
  subst e
  refine ⟨a, cap, rfl, h1, h2, ?_⟩
  rcases h.2 with ⟨_, h0⟩ | ⟨g, cap', cur, hv, hg, hh, _⟩
  · exact .inl (List.length_eq_zero_iff.1 h0)
  · cases hv
    refine h3.imp id ?_
    rintro ⟨b, off, e, hb, hc⟩
    cases e
    exact ⟨g, 0, rfl, hx g rfl, hb, hc⟩
theorem SlX.anti {S T : Nat → Prop} {w : World} {v : Value} {l : List UInt8} (h : SlX S w v l) (hT : ∀ i, T i → S i) : SlX T w v l := by
  obtain ⟨a, cap, rfl, h1, h2, h3⟩ := h
  refine ⟨a, cap, rfl, h1, h2, h3.imp id ?_⟩
  rintro ⟨b, off, ha, hb, hr⟩
  exact ⟨b, off, ha, fun ht => hb (hT _ ht), hr⟩
theorem RDs.mono {S T : Nat → Prop} {w : World} {B : Nat} {p : PD} (h : RDs S w B p) (hT : ∀ i, S i → T i) (hi : ∀ i, T i → i < w.heap.size) : RDs T w B p := by
  obtain ⟨v, fs, l, h⟩ := h
  exact ⟨v, fs, l, h.rd, hT _ h.SB, fun g hg => hT _ (h.Sv g hg), fun f hf g hg => hT _ (h.Sf f hf g hg), hi, h.lt0⟩
theorem grown_none {w w' : World} (h : w.grownBy w' none) : Below w.heap.size w w' := ⟨h.os, h.tape, h.output, h.size, fun i hi => h.block i hi (by simp)⟩
theorem slx_new {S : Nat → Prop} (w : World) (l : List UInt8) (c : Array Value) (hl : 0 < l.length) (hm : l.length ≤ 1000) (hc : c.toList = l.map encB) (hS : ∀ i, S i → i < w.heap.size) : SlX S (w.alloc (.cells c 5)) (.slice (some ⟨w.heap.size, 0, none⟩) l.length l.length) l := by
  obtain ⟨a, cap, e, h1, h2, h3⟩ := sl_new w l c hl hm hc
  cases e
  refine ⟨_, _, rfl, h1, h2, h3.imp id ?_⟩
  rintro ⟨b, off, ha, hb, hcc⟩
  cases ha
  exact ⟨_, _, rfl, fun hs => by have := hS _ hs; omega, by simp, hcc⟩
theorem list_dsk {N : Nat} {S : Nat → Prop} {w : World} {d : Nat} {p : PD} (h : Dsk N w S d p) : Calls Tryz.prog 45 #[.pointer (some ⟨d, 0, none⟩)] w fun r w' => ∃ a c, r = .returned (.slice a p.fs.length c) ∧ TextsIn w.heap.size w' (.slice a p.fs.length c) (p.fs.map PF.nm) ∧ Below w.heap.size w w' := by
  obtain ⟨k, hk, rfl, hS⟩ := h
  refine (list_any hk).mono ?_
  rintro r w' ⟨v, rfl, hT, hB⟩
  have e : k.rs.map Rw.nm = k.pd.fs.map PF.nm := by
    show _ = (k.rs.map (Rw.pf k.last)).map PF.nm
    rw [List.map_map]; rfl
  rw [e] at hT
  obtain ⟨a, c, hv⟩ := row_shape hT
  rw [List.length_map] at hv
  subst hv
  exact ⟨a, c, rfl, hT, hB⟩
/-- Both append. -/
theorem Bth.app {N : Nat} {S1 S2 : Nat → Prop} {w0 w w5 w5' w6 : World} {d B : Nat} {p : PD} {nm b : List UInt8} {r : Ending} (h : Bth N S1 S2 w0 w d B p) (hT : Then N S1 w w5 d (doAppend p nm b).2) (hB5 : Below w5.heap.size w5 w5') (hR : RDone S2 w5' B (doAppend p nm b) r w6) : ∃ S3 S4, Bth N S3 S4 w0 w6 d B (doAppend p nm b).2 := by
  obtain ⟨-, hO, hR⟩ := hR
  have hs := hB5.size
  refine ⟨_, _, h.cd hT ((Out.of_below hB5).trans hO (fun i hi _ => hi)) (hR.mono (fun i hi => hi.imp id (fun h9 => ⟨by omega, h9.2⟩)) (fun i hi => ?_)) (good_told h.good ⟨1, 0, nm, [], none, 0, b⟩ (by show (0 : Int) < 9223372036854775808; omega) hT.dsk)⟩
  have hz := hO.size
  rcases hi with hi | hi
  · have := h.rds.inn i hi; have := hT.out.size; omega
  · exact hi.2
theorem rep_cells (mm : Nat) : (madeCells (Value.int .u8 0).cells (mm * 1)).toList = (List.replicate mm (0 : UInt8)).map encB := by
  rw [Nat.mul_one]
  show (madeCells #[.int .u8 0] mm).toList = _
  rw [toList_madeCells_one, List.map_replicate]
  rfl
theorem full_len (n : Int) : ∃ mm : Nat, wrap64 (16777216 + wrap64 ((wrap64 (n.tmod 5 + 5)).tmod 5 - 2)) = (mm : Int) ∧ mm ≤ 16777218 := by
  have h1 : n.tmod 5 < 5 := Int.tmod_lt_of_pos n (by omega)
  have h2 : -5 < n.tmod 5 := by
    have := Int.tmod_lt_of_pos (-n) (b := 5) (by omega)
    rw [Int.neg_tmod] at this
    omega
  obtain ⟨r, hr⟩ : ∃ r, n.tmod 5 = r := ⟨_, rfl⟩
  rw [hr] at h1 h2 ⊢
  have e1 : wrap64 (r + 5) = r + 5 := by have := IntKind.wrap_i64 (r + 5); unfold wrap64; omega
  have e2 : (r + 5).tmod 5 = (r + 5) % 5 := Int.tmod_eq_emod_of_nonneg (by omega)
  rw [e1, e2]
  have e3 : wrap64 ((r + 5) % 5 - 2) = (r + 5) % 5 - 2 := by unfold wrap64; omega
  rw [e3]
  have e4 : wrap64 (16777216 + ((r + 5) % 5 - 2)) = 16777216 + ((r + 5) % 5 - 2) := by unfold wrap64; omega
  rw [e4]
  exact ⟨(16777216 + ((r + 5) % 5 - 2)).toNat, by omega, by omega⟩

end Go.Proofs.YtadajbdmlmickaaGreatDoor
namespace Go.Proofs.YtadajbdmlmickaaGreatDoor
open Go.RowKit Go.Shelf
set_option linter.unusedVariables false

set_option maxRecDepth 100000 in
set_option maxHeartbeats 4000000 in
theorem lent_any (M : Nat) (a : Option Addr) (c : Nat) (b : List UInt8) (w : World) (hv : Sl M w (.slice a b.length c) b) (hM : M ≤ w.heap.size) (hl : b.length ≤ 16777300) : Calls Tryz.prog 34 #[.slice a b.length c] w fun e w' => ∃ g cap, e = .returned (.slice (some ⟨g, 0, none⟩) b.length cap) ∧ Ow w.heap.size w' (.slice (some ⟨g, 0, none⟩) (b.length + 1) cap) (b ++ [201]) ∧ Below w.heap.size w w' := by
  have hby := bytes_any M _ b w hv hM (by omega)
  clear hv
  go_enter Tryz.func34, Tryz.ntmps34
  go_wp2_with (first
    | (go_at_call 69; refine hby.mono ?_; rintro e w1 ⟨v1, rfl, hO1, hB1⟩; have hO1' := hO1.alloc (.cells #[.int .u8 201] 5); have hsl := sl_new w1 [201] #[.int .u8 201] (by decide) (by decide) rfl; obtain ⟨a1, c1, rfl, -, -⟩ := hO1.shape)
    | (at_builtin; refine wpList_append_ow rfl _ _ rfl w.heap.size (w1.heap.size + 1) _ _ b [201] rfl hO1' rfl hsl (by simp; omega) (by have := hB1.size; simp; omega) ?_; intro v2 w2 hO2 hg2 _; obtain ⟨g, cap, hv2, hc2⟩ := row_some hO2 (by simp); rw [List.length_append] at hv2 hc2; subst hv2; have hc2' : ((b.length : Nat) : Int) ≤ (cap : Int) := (by simp at hc2; omega); have hc3 : (0 : Int) ≤ (b.length : Int) := (by omega); have hc4 : ((b.length : Nat) : Int) ≤ ((b.length + [(201 : UInt8)].length : Nat) : Int) := (by simp only [List.length_cons, List.length_nil]; omega))
    | fail)
  go_ret
  refine ⟨g, cap, rfl, hO2, ?_⟩
  have h1 : Below w.heap.size w (w1.alloc (.cells #[.int .u8 201] 5)) := hB1.alloc hB1.size _
  exact h1.grown hg2 (by have := hB1.size; simp; omega) (fun k hk => (World.ownsRow.lt hO1 k hk).1)

set_option maxRecDepth 100000 in
set_option maxHeartbeats 4000000 in
theorem kept_any (N M : Nat) (g cap : Nat) (a : Option Addr) (c : Nat) (b : List UInt8) (w : World) (h1 : Ow N w (.slice (some ⟨g, 0, none⟩) (b.length + 1) cap) (b ++ [201])) (h2 : Sl M w (.slice a b.length c) b) (hM : M ≤ w.heap.size) (hl : b.length ≤ 16777300) : Calls Tryz.prog 35 #[.slice (some ⟨g, 0, none⟩) b.length cap, .slice a b.length c] w fun e w' => e = .returned (.bool true) ∧ Below w.heap.size w w' := by
  have hs1 : Sl w.heap.size w (.slice (some ⟨g, 0, none⟩) b.length cap) b := by
    have h9 := (h1.sl (Nat.le_refl _))
    have e : b.length + 1 = (b ++ [(201 : UInt8)]).length := by simp
    rw [e] at h9
    have h8 := h9.front b.length (by simp)
    simpa using h8
  have hsa := same_any w.heap.size _ _ b b w hs1 (h2.mono hM)
  have hcap : b.length + 1 ≤ cap := by
    have e : b.length + 1 = (b ++ [(201 : UInt8)]).length := by simp
    rw [e] at h1
    obtain ⟨g', c', e', hc⟩ := row_some h1 (by simp)
    cases e'
    simpa using hc
  have hcell : w.cell? ⟨g, b.length, none⟩ = some (.int .u8 201) := by
    have e : b.length + 1 = (b ++ [(201 : UInt8)]).length := by simp
    rw [e] at h1
    have := World.ownsRow.cellAt h1 b.length (by simp)
    rw [this]
    simp [encB]
  have HC : Hid (∀ n, (w.drewN n).cell? ⟨g, b.length, none⟩ = some (.int .u8 201)) := fun n => hcell
  have hw1 : IntKind.i64.wrap ((b.length : Int) + 1) = (b.length : Int) + 1 := by rw [IntKind.wrap_i64]; omega
  have hw2 : (b.length : Int) + 1 ≤ (cap : Int) := by omega
  have hw3 : (0 : Int) ≤ (b.length : Int) + 1 := by omega
  have hw4 : ((b.length : Int) + 1).toNat = b.length + 1 := by omega
  have hw5 : (0 : Int) ≤ (b.length : Int) := by omega
  have hw6 : (b.length : Int) < (b.length : Int) + 1 := by omega
  clear h1 h2 hs1
  go_enter Tryz.func35, Tryz.ntmps35
  go_wp2_with (first
    | (go_at_call 33; refine hsa.mono ?_; rintro e w1 ⟨rfl, n1, rfl⟩; have hc1 := HC.out n1; rw [show decide (b = b) = true from by simp])
    | fail)
  go_ret
  exact ⟨rfl, ⟨rfl, rfl, rfl, Nat.le_refl _, fun _ _ => rfl⟩⟩

/-- Two files' bytes lie apart. -/
def ApF (f g : Fl) : Prop := ∀ b, f.x.ownBlock = some b → g.x.ownBlock ≠ some b

set_option maxRecDepth 100000 in
set_option maxHeartbeats 8000000 in
theorem files_ap {S : Nat → Prop} {w : World} {d : Nat} {k : DS} (h : DkC S w d k) : Calls Tryz.prog 32 #[.pointer (some ⟨d, 0, none⟩)] w fun r w' => ∃ v fs, r = .returned v ∧ FilesIn w.heap.size w' v fs ∧ fs.map Fl.says = k.rs.map Rw.says ∧ fs.Pairwise ApF ∧ Below w.heap.size w w' := by
  obtain ⟨⟨c0, -⟩, -⟩ := h.cells
  have hli := list_any h
  have hfew := h.few
  have HD : Hid (DkC S w d k) := h
  clear h
  go_enter Tryz.func32, Tryz.ntmps32
  go_wp2_with fail
  refine hli.mono ?_
  rintro r w1 ⟨tv, rfl, hT, hB1⟩
  have HT : Hid (TextsIn w.heap.size w1 tv (k.rs.map Rw.nm)) := hT
  obtain ⟨ta, tc, rfl, htc⟩ : ∃ ta tc, tv = .slice ta k.rs.length tc ∧ k.rs.length ≤ tc := by
    rcases hT.2 with ⟨rfl, h0⟩ | ⟨g, cap, cur, rfl, _, _, h3, _⟩
    · rw [List.length_map] at h0
      exact ⟨none, 0, by rw [h0], by omega⟩
    · rw [List.length_map] at h3 ⊢
      exact ⟨_, _, rfl, h3⟩
  clear hT
  go_wp2_with fail
  go_loopw [3, 10] (fun sv iv wr => ∃ (j : Nat) (fl : List Fl), iv = .int .i64 (j : Int) ∧ j ≤ k.rs.length ∧ FilesIn w1.heap.size wr sv fl ∧ fl.map Fl.says = (k.rs.take j).map Rw.says ∧ fl.Pairwise ApF ∧ Below w.heap.size w wr ∧ Below w1.heap.size w1 wr) (fun _ iv _ => k.rs.length - (intOf iv).toNat)
  case atStart => exact ⟨0, [], rfl, Nat.zero_le _, ⟨World.ownsRow_nil _ _ _ _, by simp⟩, by simp, List.Pairwise.nil, hB1, Below.refl _ _⟩
  case round =>
    obtain ⟨j, fl, rfl, hj, hfi, hsay, hpw, hB, hB1'⟩ := hrel
    have HPW : Hid (fl.Pairwise ApF) := hpw
    clear hpw
    have HFI : Hid (FilesIn w1.heap.size wr u3 fl) := hfi
    have HS : Hid (fl.map Fl.says = (k.rs.take j).map Rw.says) := hsay
    have HB : Hid (Below w.heap.size w wr) := hB
    have HB1 : Hid (Below w1.heap.size w1 wr) := hB1'
    clear hfi hsay
    by_cases hlt : j < k.rs.length
    · obtain ⟨r, hre⟩ : ∃ r, k.rs[j] = r := ⟨_, rfl⟩
      have hr : r ∈ k.rs := by rw [← hre]; exact List.getElem_mem hlt
      have hA := (At.start HD.out).below hB
      have hF := hA.dk.fs r hr
      have hlk := hA.dk.look hr
      have hnl : r.nm.length ≤ maxLen := by have := hF.nm; unfold maxLen; omega
      have hmr := hA.dk.hm
      obtain ⟨⟨e0, -⟩, -⟩ := hA.dk.cells
      obtain ⟨⟨g0, g1⟩, -⟩ := hF.cells
      obtain ⟨av, capv, hv, hlc, hcm⟩ := hF.own.shape
      have hown := hF.own
      rw [hv] at g0 hown
      have hfr := fresh_any wr.heap.size _ r.dat wr.drew ((hown.sl (Nat.le_refl _)).below ⟨rfl, rfl, rfl, Nat.le_refl _, fun _ _ => rfl⟩) (by have h7 := sum_del_le hr; have := HD.out.all; omega)
      have hbw : r.b < wr.heap.size := hA.dk.inn _ (hA.dk.Sf r hr).1
      have HL : Hid (fl.length = j) := by
        have := congrArg List.length HS.out
        simp at this
        show fl.length = j
        omega
      have HT2 : Hid (wr.ownsRow w.heap.size 9 1 (.slice ta k.rs.length tc) k.rs.length ((k.rs.map Rw.nm).map encStr)) := by
        have h9 := row_below HT.out HB1.out
        rw [List.length_map] at h9
        exact h9
      obtain ⟨tb, rfl⟩ : ∃ tb, ta = some ⟨tb, 0, none⟩ := by
        rcases HT2.out.2 with ⟨hv0, h0⟩ | ⟨g, cap, cur, hv0, _⟩
        · omega
        · cases hv0; exact ⟨g, rfl⟩
      have HNE : Hid (some r.b ≠ Value.ownBlock u3) := by
        show some r.b ≠ _
        intro e
        rcases HFI.out.row.2 with ⟨hv0, _⟩ | ⟨g, cap, cur, hv0, _, hb0, _⟩
        · rw [hv0] at e; simp [Value.ownBlock] at e
        · rw [hv0] at e
          simp [Value.ownBlock] at e
          exact hF.ne hb0 (by simp) e
      have hcell : wr.cell? ⟨tb, j, none⟩ = some (.string ⟨r.nm.toArray⟩) := by
        have := World.ownsRow.cellAt HT2.out j (by omega)
        simpa [hlt, hre] using this
      have hij : (j : Int) < (k.rs.length : Int) := by omega
      have HTK : Hid (k.rs.take (j + 1) = k.rs.take j ++ [r]) := by show _ = _; rw [take_rw hlt, hre]
      clear hv hF hown hA hre hlt
      go_wp2_with (first | (at_lookup; refine wpList_look1_some rfl _ _ rfl _ _ _ rfl hmr r.nm rfl hnl r hlk ?_) | fail)
      go_region_held3 (fun w' => w'.cell? ⟨r.b, 0, none⟩ = some (.slice av r.dat.length capv) ∧ w'.cell? ⟨r.b, 1, none⟩ = some (.int .i64 (r.syn : Int))) (go_keep)
        (first
          | (go_at_call 68; refine hfr.mono ?_; rintro e w5 ⟨v5, rfl, hO5, hB5⟩; obtain ⟨ba, bc, rfl, -, -⟩ := hO5.shape; have hB5x : Below wr.heap.size wr w5 := ⟨hB5.os, hB5.tape, hB5.output, hB5.size, hB5.block⟩; have k0 := (hB5x.cell (p := ⟨r.b, 0, none⟩) hbw).trans g0; have k1 := (hB5x.cell (p := ⟨r.b, 1, none⟩) hbw).trans g1)
          | (refine step_append_fl rfl (.tmp 20) (.tmp 32) rfl w1.heap.size u3 fl.length (cellsOf fl) (by simp [Act.eval]) (World.ownsRow.alloc (row_below HFI.out.row hB5x) _) w5.heap.size (by simp [Act.eval]) ⟨r.nm, ba, bc, r.dat, (r.syn : Int)⟩ (heap_alloc_new w5 _) (by have := HL.out; omega) (by have h1 := HB1.out.size; have h2 := hB5x.size; simp only [World.size_alloc]; omega) ?_; intro v6 w6 hrow6 hg6 hl6; have m0 := hg6.cell (World.grownBy.cell (World.grownBy_alloc w5 _ none) k0 (by simp)) HNE.out; have m1 := hg6.cell (World.grownBy.cell (World.grownBy_alloc w5 _ none) k1 (by simp)) HNE.out)
          | fail)
      have hrow5 := World.ownsRow.alloc (row_below HFI.out.row hB5x) (.cells #[.string ⟨r.nm.toArray⟩, .slice ba r.dat.length bc, .int .i64 (r.syn : Int)] 71)
      have hzz : w1.heap.size ≤ w5.heap.size := Nat.le_trans HB1.out.size hB5x.size
      have HEND : Hid (FilesIn w1.heap.size w6 v6 (fl ++ [⟨r.nm, ba, bc, r.dat, (r.syn : Int)⟩]) ∧ (fl ++ [(⟨r.nm, ba, bc, r.dat, (r.syn : Int)⟩ : Fl)]).map Fl.says = (k.rs.take (j + 1)).map Rw.says ∧ Below w.heap.size w w6 ∧ Below w1.heap.size w1 w6) := by
        refine ⟨⟨by simpa [cellsOf] using hrow6, fun f hf => ?_⟩, ?_, ?_, ?_⟩
        · rcases List.mem_append.1 hf with hf | hf
          · have h9 := (Ow.below (HFI.out.own f hf) hB5x (Nat.le_refl _)).alloc (.cells #[.string ⟨r.nm.toArray⟩, .slice ba r.dat.length bc, .int .i64 (r.syn : Int)] 71)
            exact h9.kept hg6 (rows_apart hrow5 h9)
          · obtain rfl : f = _ := by simpa using hf
            have h9 := (Ow.base (N' := w1.heap.size) hO5 HB1.out.size).alloc (.cells #[.string ⟨r.nm.toArray⟩, .slice ba r.dat.length bc, .int .i64 (r.syn : Int)] 71)
            exact h9.kept hg6 (rows_apart hrow5 h9)
        · rw [HTK.out, List.map_append, List.map_append, HS.out]; rfl
        · exact ((HB.out.trans (hB5x.mono HB.out.size)).alloc (Nat.le_trans HB.out.size hB5x.size) _).grown hg6 (by simp only [World.size_alloc]; have h1 := HB.out.size; have h2 := hB5x.size; omega) (fun j hj => by have h1 := (World.ownsRow.lt hrow5 j hj).1; have h2 := hB1.size; omega)
        · exact ((HB1.out.trans (hB5x.mono HB1.out.size)).alloc hzz _).grown hg6 (by simp only [World.size_alloc]; omega) (fun j hj => (World.ownsRow.lt hrow5 j hj).1)
      have HP2 : Hid ((fl ++ [(⟨r.nm, ba, bc, r.dat, (r.syn : Int)⟩ : Fl)]).Pairwise ApF) := by
        show List.Pairwise _ _
        refine List.pairwise_append.2 ⟨HPW.out, List.pairwise_singleton _ _, fun x hx y hy => ?_⟩
        obtain rfl := List.mem_singleton.1 hy
        intro b hb e
        have q1 := (World.ownsRow.lt (HFI.out.own x hx) b hb).2
        have q2 := (World.ownsRow.lt hO5 b e).1
        have q3 : wr.drew.heap.size = wr.heap.size := rfl
        omega
      clear hrow6 hg6 hl6 m0 m1 k0 k1 hrow5 hO5
      go_wp2
      exact ⟨⟨j + 1, _, by go_num, by omega, HEND.out.1, HEND.out.2.1, HP2.out, HEND.out.2.2.1, HEND.out.2.2.2⟩, by simp [intOf]; omega⟩
    · have HE : Hid (k.rs.take j = k.rs) := List.take_of_length_le (by omega)
      go_wp2
      go_ret
      exact ⟨_, fl, rfl, HFI.out.base hB1.size, by rw [HS.out, HE.out], HPW.out, HB.out⟩

end Go.Proofs.YtadajbdmlmickaaGreatDoor
namespace Go.Proofs.YtadajbdmlmickaaGreatDoor
open Go.RowKit Go.Shelf
set_option linter.unusedVariables false

theorem row_blk {w : World} {N s n : Nat} {e : TypeId} {v : Value} {xs : List Value} (h : w.ownsRow N e s v n xs) {g : Nat} (hg : v.ownBlock = some g) : ∃ cs, w.heap[g]? = some (.cells cs e (0, 0)) := by
  rcases h.2 with ⟨rfl, _⟩ | ⟨g', cap, cur, rfl, _, hb, _⟩
  · simp [Value.ownBlock] at hg
  · simp [Value.ownBlock] at hg
    subst hg
    exact ⟨_, hb⟩
theorem row_ty {w : World} {N M s s' n n' : Nat} {e t : TypeId} {v u : Value} {xs ys : List Value} (h : w.ownsRow N e s v n xs) (h' : w.ownsRow M t s' u n' ys) (ht : e ≠ t) : ∀ g, v.ownBlock = some g → u.ownBlock ≠ some g := fun g hg hu => by
  obtain ⟨cs, h1⟩ := row_blk h hg
  obtain ⟨cs', h2⟩ := row_blk h' hu
  rw [h1] at h2
  simp at h2
  exact ht h2.2
structure LI (N : Nat) (w0 w : World) (va : Option Addr) (n vc : Nat) (tv : Value) (fl : List Fl) (ts : List (List UInt8)) : Prop where
  fi : FilesIn N w (.slice va n vc) fl
  pw : fl.Pairwise ApF
  ln : fl.length = n
  tx : TextsIn N w tv ts
  tn : ts.length = n
  be : Below N w0 w
  hN : N ≤ w0.heap.size
theorem LI.sz {N : Nat} {w0 w : World} {va : Option Addr} {n vc : Nat} {tv : Value} {fl : List Fl} {ts : List (List UInt8)} (h : LI N w0 w va n vc tv fl ts) : N ≤ w.heap.size := Nat.le_trans h.hN h.be.size
theorem mem_set_ne {fl : List Fl} {i : Nat} {f x : Fl} (h : x ∈ fl.set i f) : x = f ∨ ∃ j, j ≠ i ∧ fl[j]? = some x := by
  obtain ⟨j, hj⟩ := List.mem_iff_getElem?.1 h
  rw [List.getElem?_set] at hj
  split at hj
  · rename_i e
    split at hj
    · simp at hj; exact .inl hj.symm
    · cases hj
  · rename_i e
    exact .inr ⟨j, fun e2 => e e2.symm, hj⟩
theorem ap_at {fl : List Fl} (h : fl.Pairwise ApF) {i j : Nat} (hne : j ≠ i) {f x : Fl} (hf : fl[i]? = some f) (hx : fl[j]? = some x) : ∀ b, x.x.ownBlock = some b → f.x.ownBlock ≠ some b := by
  rw [List.pairwise_iff_getElem] at h
  obtain ⟨hi, e1⟩ := List.getElem?_eq_some_iff.1 hf
  obtain ⟨hj, e2⟩ := List.getElem?_eq_some_iff.1 hx
  intro b hb he
  rcases Nat.lt_or_ge i j with hl | hl
  · have := h i j hi hj hl
    rw [e1, e2] at this
    exact this b he hb
  · have := h j i hj hi (by omega)
    rw [e1, e2] at this
    exact this b hb he
theorem getD_some {fl : List Fl} {i : Nat} (hi : i < fl.length) : fl[i]? = some (fl.getD i nilFl) := by
  rw [List.getD_eq_getElem?_getD, List.getElem?_eq_getElem hi]; rfl
theorem ap_set {fl : List Fl} (h : fl.Pairwise ApF) {i : Nat} (hi : i < fl.length) (f : Fl) (hf : ∀ b, f.x.ownBlock = some b → (fl.getD i nilFl).x.ownBlock = some b ∨ ∀ x ∈ fl, x.x.ownBlock ≠ some b) : (fl.set i f).Pairwise ApF := by
  rw [List.pairwise_iff_getElem]
  intro a c ha hc hac
  simp only [List.length_set] at ha hc
  have hgi := getD_some hi
  rw [List.getElem_set, List.getElem_set]
  by_cases e1 : i = a
  · have e2 : i ≠ c := by omega
    rw [if_pos e1, if_neg e2]
    intro b hb hcb
    rcases hf b hb with h9 | h9
    · exact ap_at h (fun e => e2 e.symm) hgi (List.getElem?_eq_getElem hc) b hcb h9
    · exact h9 _ (List.getElem_mem hc) hcb
  · rw [if_neg e1]
    by_cases e2 : i = c
    · rw [if_pos e2]
      intro b hb hcb
      rcases hf b hcb with h9 | h9
      · exact ap_at h (fun e => e1 e.symm) hgi (List.getElem?_eq_getElem ha) b hb h9
      · exact h9 _ (List.getElem_mem ha) hb
    · rw [if_neg e2]
      exact (List.pairwise_iff_getElem.1 h) a c ha hc hac
theorem LI.below {N : Nat} {w0 w w' : World} {va : Option Addr} {n vc : Nat} {tv : Value} {fl : List Fl} {ts : List (List UInt8)} (h : LI N w0 w va n vc tv fl ts) (hB : Below w.heap.size w w') : LI N w0 w' va n vc tv fl ts :=
  ⟨⟨row_below h.fi.row hB, fun f hf => (h.fi.own f hf).below hB (Nat.le_refl _)⟩, h.pw, h.ln, row_below h.tx hB, h.tn, h.be.trans (hB.mono h.sz), h.hN⟩
/-- A byte of a file's is written over. -/
theorem LI.poke {N : Nat} {w0 w : World} {va : Option Addr} {n vc i k b : Nat} {tv : Value} {fl : List Fl} {ts : List (List UInt8)} {f : Fl} (h : LI N w0 w va n vc tv fl ts) (hi : i < n) (hf : fl.getD i nilFl = f) (ha : f.a = some ⟨b, 0, none⟩) : LI N w0 (w.setCell ⟨b, k, none⟩ (.int .u8 97)) va n vc tv (fl.set i ⟨f.nm, f.a, f.c, f.dat.set k 97, f.syn⟩) ts := by
  have hil : i < fl.length := by rw [h.ln]; exact hi
  have hgi := getD_some hil
  rw [hf] at hgi
  have hfm : f ∈ fl := List.mem_of_getElem? hgi
  have hO := h.fi.own f hfm
  have hfb : f.x.ownBlock = some b := by unfold Fl.x; rw [ha]; rfl
  have hO' : w.ownsRow N 5 1 (.slice (some ⟨b, 0, none⟩) f.dat.length f.c) f.dat.length (f.dat.map encB) := by have h9 := hO; unfold Fl.x at h9; rw [ha] at h9; exact h9
  have hs := World.ownsRow.stored hO' k (.int .u8 97)
  have hbN := (World.ownsRow.lt hO b hfb).1
  refine ⟨⟨?_, fun x hx => ?_⟩, ap_set h.pw hil _ (fun b' hb' => .inl ?_), by rw [List.length_set]; exact h.ln, ?_, h.tn, h.be.grown hs.2 h.sz (fun j hj => by cases hj; exact hbN), h.hN⟩
  · have e : cellsOf (fl.set i ⟨f.nm, f.a, f.c, f.dat.set k 97, f.syn⟩) = cellsOf fl := by
      have hx : (⟨f.nm, f.a, f.c, f.dat.set k 97, f.syn⟩ : Fl).cells = f.cells := by simp [Fl.cells, Fl.x]
      have e2 : (fl.set i ⟨f.nm, f.a, f.c, f.dat.set k 97, f.syn⟩).map Fl.cells = fl.map Fl.cells := by
        rw [List.map_set, hx]
        refine List.ext_getElem? fun j => ?_
        rw [List.getElem?_set]
        split
        · rename_i e3
          subst e3
          split
          · rw [List.getElem?_map, hgi]; rfl
          · rename_i hlt; simp at hlt; omega
        · rfl
      unfold cellsOf
      rw [e2]
    rw [e, List.length_set]
    exact World.ownsRow.kept h.fi.row hs.2 (by
      cases hv : (Value.slice va n vc).ownBlock with
      | none => exact .inl rfl
      | some j => exact .inr (fun e => row_ty h.fi.row hO (by decide) j hv (by rw [hfb, ← e])))
  · rcases mem_set_ne hx with rfl | ⟨j, hj, hxj⟩
    · show World.ownsRow _ _ _ _ _ _ _
      unfold Fl.x
      simp only [List.length_set]
      rw [ha, List.map_set]
      exact hs.1
    · have hxm := List.mem_of_getElem? hxj
      refine (h.fi.own x hxm).kept hs.2 ?_
      cases hv : x.x.ownBlock with
      | none => exact .inl rfl
      | some j' => exact .inr (fun e => ap_at h.pw hj hgi hxj j' hv (by rw [hfb, ← e]))
  · rw [hf]
    unfold Fl.x at hb' ⊢
    rw [ha] at hb' ⊢
    exact hb'
  · refine World.ownsRow.kept h.tx hs.2 ?_
    cases hv : tv.ownBlock with
    | none => exact .inl rfl
    | some j => exact .inr (fun e => row_ty h.tx hO (by decide) j hv (by rw [hfb, ← e]))
/-- A file's bytes are others, behind an append. -/
theorem LI.app {N : Nat} {w0 w w5 : World} {n vc i g : Nat} {tv : Value} {fl : List Fl} {ts : List (List UInt8)} {f : Fl} {a5 : Option Addr} {c5 : Nat} {dat : List UInt8} (h : LI N w0 w (some ⟨g, 0, none⟩) n vc tv fl ts) (hi : i < n) (hf : fl.getD i nilFl = f) (hO5 : Ow N w5 (.slice a5 dat.length c5) dat) (hg5 : w.grownBy w5 f.x.ownBlock) (hv5 : (Value.slice a5 dat.length c5).ownBlock = f.x.ownBlock ∨ (Value.slice a5 dat.length c5).ownBlock = some w.heap.size) :
    LI N w0 (w5.setCell ⟨g, i * 3 + 1, none⟩ (.slice a5 dat.length c5)) (some ⟨g, 0, none⟩) n vc tv (fl.set i ⟨f.nm, a5, c5, dat, f.syn⟩) ts := by
  have hil : i < fl.length := by rw [h.ln]; exact hi
  have hgi := getD_some hil
  rw [hf] at hgi
  have hfm : f ∈ fl := List.mem_of_getElem? hgi
  have hO := h.fi.own f hfm
  have hrow := h.fi.row
  have hrow5 : w5.ownsRow N 71 3 (.slice (some ⟨g, 0, none⟩) n vc) fl.length (cellsOf fl) := World.ownsRow.kept hrow hg5 (by
    cases hv : f.x.ownBlock with
    | none => exact .inr (by simp [Value.ownBlock])
    | some j => exact .inr (fun e => row_ty hrow hO (by decide) j e hv))
  rw [h.ln] at hrow5
  have hs := World.ownsRow.stored hrow5 (i * 3 + 1) (.slice a5 dat.length c5)
  have hgN : N ≤ g := (World.ownsRow.lt hrow5 g rfl).1
  refine ⟨⟨?_, fun x hx => ?_⟩, ap_set h.pw hil _ (fun b' hb' => ?_), by rw [List.length_set]; exact h.ln, ?_, h.tn, ?_, h.hN⟩
  · have e := cellsOf_set1 (j := i) hil a5 c5 dat
    rw [hf] at e
    rw [e, List.length_set, h.ln]
    exact hs.1
  · have hx5 : Ow N w5 x.x x.dat := by
      rcases mem_set_ne hx with rfl | ⟨j, hj, hxj⟩
      · exact hO5
      · have hxm := List.mem_of_getElem? hxj
        refine (h.fi.own x hxm).kept hg5 ?_
        cases hv : x.x.ownBlock with
        | none => exact .inl rfl
        | some j' => exact .inr (fun e => ap_at h.pw hj hgi hxj j' hv e.symm)
    refine hx5.kept hs.2 ?_
    cases hv : x.x.ownBlock with
    | none => exact .inl rfl
    | some j' => exact .inr (fun e => row_ty hx5 hrow5 (by decide) j' hv (by show some g = some j'; rw [← e]))
  · rcases hv5 with e | e
    · rw [hf]; exact .inl (by rw [← e]; exact hb')
    · refine .inr (fun x hx hxb => ?_)
      have h1 : some w.heap.size = some b' := by rw [← e]; exact hb'
      cases h1
      have := (World.ownsRow.lt (h.fi.own x hx) _ hxb).2
      omega
  · have ht5 : w5.ownsRow N 9 1 tv ts.length (ts.map encStr) := World.ownsRow.kept h.tx hg5 (by
      cases hv : tv.ownBlock with
      | none => exact .inl rfl
      | some j => exact .inr (fun e => row_ty h.tx hO (by decide) j hv e.symm))
    refine World.ownsRow.kept ht5 hs.2 ?_
    cases hv : tv.ownBlock with
    | none => exact .inl rfl
    | some j => exact .inr (fun e => row_ty ht5 hrow5 (by decide) j hv (by show some g = some j; rw [← e]))
  · exact (h.be.grown hg5 h.sz (fun j hj => (World.ownsRow.lt hO j hj).1)).grown hs.2 (Nat.le_trans h.sz hg5.size) (fun j hj => by cases hj; exact hgN)
/-- A name is written over. -/
theorem LI.over {N : Nat} {w0 w : World} {va : Option Addr} {n vc i tb tc : Nat} {fl : List Fl} {ts : List (List UInt8)} (h : LI N w0 w va n vc (.slice (some ⟨tb, 0, none⟩) n tc) fl ts) (x : List UInt8) : LI N w0 (w.setCell ⟨tb, i, none⟩ (.string ⟨x.toArray⟩)) va n vc (.slice (some ⟨tb, 0, none⟩) n tc) fl (ts.set i x) := by
  have htx : w.ownsRow N 9 1 (.slice (some ⟨tb, 0, none⟩) n tc) n (ts.map encStr) := by have h9 := h.tx; unfold TextsIn at h9; rw [h.tn] at h9; exact h9
  have hs := World.ownsRow.stored htx i (.string ⟨x.toArray⟩)
  refine ⟨⟨World.ownsRow.kept h.fi.row hs.2 ?_, fun f hf => (h.fi.own f hf).kept hs.2 ?_⟩, h.pw, h.ln, ?_, by rw [List.length_set]; exact h.tn, h.be.grown hs.2 h.sz (fun j hj => by cases hj; exact (World.ownsRow.lt htx tb rfl).1), h.hN⟩
  · cases hv : (Value.slice va n vc).ownBlock with
    | none => exact .inl rfl
    | some j => exact .inr (fun e => row_ty h.fi.row htx (by decide) j hv (by show some tb = some j; rw [← e]))
  · cases hv : f.x.ownBlock with
    | none => exact .inl rfl
    | some j => exact .inr (fun e => row_ty (h.fi.own f hf) htx (by decide) j hv (by show some tb = some j; rw [← e]))
  · unfold TextsIn
    rw [List.length_set, h.tn, List.map_set]
    exact hs.1
end Go.Proofs.YtadajbdmlmickaaGreatDoor
namespace Go.Proofs.YtadajbdmlmickaaGreatDoor
open Go.RowKit Go.Shelf
set_option linter.unusedVariables false

theorem files_apd {N : Nat} {S : Nat → Prop} {w : World} {d : Nat} {p : PD} (h : Dsk N w S d p) :
    Calls Tryz.prog 32 #[.pointer (some ⟨d, 0, none⟩)] w fun r w' => ∃ a c fs, r = .returned (.slice a p.fs.length c) ∧ FilesIn w.heap.size w' (.slice a p.fs.length c) fs ∧ fs.length = p.fs.length ∧ saysF fs = p.fs.map PF.says ∧ fs.Pairwise ApF ∧ Below w.heap.size w w' := by
  obtain ⟨k, hk, rfl, hS⟩ := h
  refine (files_ap hk).mono ?_
  rintro r w' ⟨v, fs, rfl, hF, hs, hp, hB⟩
  have hl : fs.length = k.pd.fs.length := by
    have := congrArg List.length hs
    simp at this
    rw [this]
    simp [DS.pd]
  obtain ⟨a, c, hv, _, _, hat⟩ := hF.at
  rw [hl] at hv
  subst hv
  exact ⟨a, c, fs, rfl, hF, hl, by rw [← says_pd]; exact hs, hp, hB⟩
theorem sum_eq {fl : List Fl} {ps : List PF} (h : saysF fl = ps.map PF.says) : sumF fl = sumP ps := sum_says h
theorem le_sumF {f : Fl} : ∀ {fs : List Fl}, f ∈ fs → f.dat.length ≤ sumF fs
  | [], h => by simp at h
  | g :: r, h => by
    simp only [sumF, List.map_cons, List.sum_cons]
    rcases List.mem_cons.1 h with rfl | h
    · omega
    · have := le_sumF h
      simp only [sumF] at this
      omega
theorem FilesIn.flsN {N n : Nat} {w : World} {a : Option Addr} {c : Nat} {fs : List Fl} (h : FilesIn N w (.slice a n c) fs) (hn : fs.length = n) : FlsAt w.heap.size w a fs := by
  subst hn
  obtain ⟨a', c', hv, _, _, hat⟩ := h.at
  cases hv
  exact hat

set_option maxRecDepth 100000 in
set_option maxHeartbeats 20000000 in
theorem same_walk {N : Nat} {S1 S2 : Nat → Prop} {w0 w : World} {d B : Nat} {q : PD} (h : Bth N S1 S2 w0 w d B q) : Calls Tryz.prog 19 #[.pointer (some ⟨d, 0, none⟩), .pointer (some ⟨B, 0, none⟩)] w fun r w' => r = .returned (.bool true) ∧ Below w.heap.size w w' := by
  obtain ⟨v, fs, l, hro⟩ := h.rds
  obtain ⟨va, vc, hv, -, -, hFA⟩ := hro.rd.fi.at
  have hfl : fs.length = q.fs.length := hro.rd.len
  have hq256 : q.fs.length ≤ 256 := by have := hro.rd.fw; omega
  have HSM : Hid (sumP q.fs ≤ 16777216) := hro.rd.sm
  have HD : Hid (∀ w', Below w.heap.size w w' → Dsk N w' S1 d q) := fun w' hB => h.dsk.below hB
  have HR : Hid (∀ w', Below w.heap.size w w' → RD 0 w' B q v fs l) := fun w' hB => hro.rd.out (X := fun _ => False) (Out.of_below hB) (fun h => h) (fun _ _ h => h) (fun _ _ _ _ h => h)
  have HK : Hid (∀ w', Below w.heap.size w w' → w'.cell? ⟨B, 0, none⟩ = some (.slice va q.fs.length vc) ∧ w'.cell? ⟨B, 2, none⟩ = some (.bool q.dn)) := fun w' hB => by
    have h9 := (HR.out w' hB).cells
    refine ⟨?_, h9.2.2.1⟩
    rw [h9.1, hv, hfl]
  have HSAME : Hid (∀ (w1 : World) (la : Option Addr) (lc : Nat) (fl : List Fl), Below w.heap.size w w1 → FlsAt w1.heap.size w1 la fl → fl.length = q.fs.length → saysF fl = q.fs.map PF.says → Calls Tryz.prog 48 #[.slice la q.fs.length lc, .slice va q.fs.length vc] w1 fun e w' => e = .returned (.bool true) ∧ Below w1.heap.size w1 w') := fun w1 la lc fl hB hF hl hs => by
    have h9 := sameFiles_any la va lc vc fl fs w1.heap.size w1 hF ((hFA.below hB).mono hB.size) (Nat.le_refl _) (by omega)
    rw [hl, hfl, show decide (saysF fl = saysF fs) = true from by rw [hs]; unfold saysF; rw [hro.rd.sy]; simp] at h9
    exact h9
  have HB0 : Hid (Below w.heap.size w w) := Below.refl _ _
  clear h hro hv hfl hFA
  go_enter Tryz.func19, Tryz.ntmps19
  go_wp2_with fail
  refine (files_apd (HD.out w HB0.out)).mono ?_
  rintro e w1 ⟨la, lc, fl, rfl, hF1, hl1, hs1, hp1, hB1⟩
  have m1 := (HK.out w1 hB1).1
  have hsm := HSAME.out w1 la lc fl hB1 (hF1.flsN hl1) hl1 hs1
  have HF1 : Hid (FilesIn w.heap.size w1 (.slice la q.fs.length lc) fl ∧ fl.length = q.fs.length ∧ saysF fl = q.fs.map PF.says ∧ fl.Pairwise ApF ∧ Below w.heap.size w w1) := ⟨hF1, hl1, hs1, hp1, hB1⟩
  clear hF1 hl1 hs1 hp1 hB1
  go_wp2_with fail
  refine hsm.mono ?_
  rintro e w2 ⟨rfl, hB2⟩
  have HB2 : Hid (Below w.heap.size w w2) := HF1.out.2.2.2.2.trans (hB2.mono HF1.out.2.2.2.2.size)
  have HX2 : Hid (Below w1.heap.size w1 w2) := hB2
  clear hB2 hsm m1
  go_wp2_with fail
  refine (list_dsk (HD.out w2 HB2.out)).mono ?_
  rintro e w3 ⟨ta, tc, rfl, hT3, hB3⟩
  have HT3 : Hid (TextsIn w2.heap.size w3 (.slice ta q.fs.length tc) (q.fs.map PF.nm)) := hT3
  have HX3 : Hid (Below w2.heap.size w2 w3) := hB3
  have HB3 : Hid (Below w.heap.size w w3) := HB2.out.trans (hB3.mono HB2.out.size)
  clear hT3 hB3
  go_wp2_with fail
  refine (refList (HR.out w3 HB3.out)).mono ?_
  rintro e w4 ⟨xa, xc, rfl, hX4, hB4⟩
  have hst := sameTexts_true (row_below HT3.out hB4) hX4 (by simp) (by omega)
  have HX4 : Hid (Below w3.heap.size w3 w4) := hB4
  have HB4 : Hid (Below w.heap.size w w4) := HB3.out.trans (hB4.mono HB3.out.size)
  clear hX4 hB4
  go_wp2_with fail
  refine hst.mono ?_
  rintro e w5 ⟨rfl, hB5⟩
  have HB5 : Hid (Below w.heap.size w w5) := HB4.out.trans (hB5.mono HB4.out.size)
  have HL5 : Hid (LI w.heap.size w w5 la q.fs.length lc (.slice ta q.fs.length tc) fl (q.fs.map PF.nm)) := by
    have b12 := HX2.out
    have b23 := b12.trans (HX3.out.mono b12.size)
    have b34 := b23.trans (HX4.out.mono b23.size)
    have b45 := b34.trans (hB5.mono b34.size)
    have c45 := HX4.out.trans (hB5.mono HX4.out.size)
    exact ⟨⟨row_below HF1.out.1.row b45, fun f hf => (HF1.out.1.own f hf).below b45 (Nat.le_refl _)⟩, HF1.out.2.2.2.1, HF1.out.2.1, row_base (row_below HT3.out c45) HB2.out.size, by simp, HB5.out, Nat.le_refl _⟩
  have HDL : Hid (∀ f ∈ fl, f.dat.length ≤ 16777216 + 0) := fun f hf => by have h1 := le_sumF hf; have h2 := sum_eq HF1.out.2.2.1; have h3 := HSM.out; omega
  clear hB5 hst HX2 HX3 HX4 HT3 HF1
  go_wp2_with fail
  go_loopw [9] (fun iv wr => ∃ (i : Nat) (fl : List Fl) (ts : List (List UInt8)), iv = .int .i64 (i : Int) ∧ i ≤ q.fs.length ∧ LI w.heap.size w wr la q.fs.length lc (.slice ta q.fs.length tc) fl ts ∧ ∀ f ∈ fl, f.dat.length ≤ 16777216 + i) (fun iv _ => q.fs.length - (intOf iv).toNat)
  case atStart => exact ⟨0, fl, _, rfl, Nat.zero_le _, HL5.out, HDL.out⟩
  case round =>
    obtain ⟨i, gl, ts, rfl, hi, hL, hD⟩ := hrel
    have HL : Hid (LI w.heap.size w wr la q.fs.length lc (.slice ta q.fs.length tc) gl ts) := hL
    have HDD : Hid (∀ f ∈ gl, f.dat.length ≤ 16777216 + i) := hD
    by_cases hlt : i < q.fs.length
    · have hi0 : (0 : Int) ≤ (i : Int) := by omega
      have hi1 : (i : Int) < (q.fs.length : Int) := by omega
      have hil : i < gl.length := by rw [hL.ln]; exact hlt
      have hrw := hL.fi.row
      rw [hL.ln] at hrw
      obtain ⟨g, gc, hge, hgc⟩ := row_some hrw (by omega)
      obtain ⟨tb, hte, htc, -, -⟩ := hL.tx.at hL.tn hlt
      cases hge
      subst hte
      obtain ⟨f, hf⟩ : ∃ f, gl.getD i nilFl = f := ⟨_, rfl⟩
      have HF : Hid (gl.getD i nilFl = f) := hf
      have hfl : f.dat.length ≤ 16777216 + 256 := by have := hD f (by rw [← hf]; exact getD_mem hil); omega
      have HIN : Hid (∀ (wq : World) (dat : List UInt8), dat.length = f.dat.length → LI w.heap.size w wq (some ⟨g, 0, none⟩) q.fs.length lc (.slice (some ⟨tb, 0, none⟩) q.fs.length tc) (gl.set i ⟨f.nm, f.a, f.c, dat, f.syn⟩) ts → wq.cell? ⟨g, i * 3 + 1, none⟩ = some (.slice f.a f.dat.length f.c) ∧ wq.frozen? ⟨g, i * 3 + 1, none⟩ = false ∧ Ow w.heap.size wq (.slice f.a f.dat.length f.c) dat) := fun wq dat hd hli => by
        have hl2 : i < (gl.set i ⟨f.nm, f.a, f.c, dat, f.syn⟩).length := by simpa using hil
        have hrow := hli.fi.row
        rw [hli.ln] at hrow
        have h1 := hrow.cellAt (i * 3 + 1) (by omega)
        have h2 := (cells_at hl2).2.1
        rw [getD_set hil] at h2
        have h3 := hli.fi.own _ (getD_mem hl2)
        rw [getD_set hil] at h3
        refine ⟨?_, hrow.frozenAt _, ?_⟩
        · rw [h1, h2]; show some (Value.slice f.a dat.length f.c) = _; rw [hd]
        · have h4 : Ow w.heap.size wq (.slice f.a dat.length f.c) dat := h3
          rw [hd] at h4
          exact h4
      have HST : Hid (LI w.heap.size w wr (some ⟨g, 0, none⟩) q.fs.length lc (.slice (some ⟨tb, 0, none⟩) q.fs.length tc) (gl.set i ⟨f.nm, f.a, f.c, f.dat, f.syn⟩) ts) := by
        have e : gl.set i ⟨f.nm, f.a, f.c, f.dat, f.syn⟩ = gl := by
          refine List.ext_getElem? fun j => ?_
          rw [List.getElem?_set]
          split
          · rename_i e3
            subst e3
            have h9 := getD_some hil
            rw [hf] at h9
            first | rw [if_pos hil, h9] | rw [h9]
          · rfl
        rw [e]
        exact hL
      clear hL hD hf hgc htc hrw
      go_wp2_with fail
      generalize wr = wz at *
      go_loopw [10] (fun kv wq => ∃ (k : Nat) (dat : List UInt8), kv = .int .i64 (k : Int) ∧ k ≤ f.dat.length ∧ dat.length = f.dat.length ∧ LI w.heap.size w wq (some ⟨g, 0, none⟩) q.fs.length lc (.slice (some ⟨tb, 0, none⟩) q.fs.length tc) (gl.set i ⟨f.nm, f.a, f.c, dat, f.syn⟩) ts) (fun kv _ => f.dat.length - (intOf kv).toNat)
      case atStart => exact ⟨0, f.dat, rfl, Nat.zero_le _, rfl, HST.out⟩
      case round =>
        obtain ⟨k, dat, rfl, hk, hdl, hli⟩ := hrel
        have HLI : Hid (LI w.heap.size w wr (some ⟨g, 0, none⟩) q.fs.length lc (.slice (some ⟨tb, 0, none⟩) q.fs.length tc) (gl.set i ⟨f.nm, f.a, f.c, dat, f.syn⟩) ts) := hli
        have HDL2 : Hid (dat.length = f.dat.length) := hdl
        obtain ⟨r0, r1, r2⟩ := HIN.out wr dat hdl hli
        have HO : Hid (Ow w.heap.size wr (.slice f.a f.dat.length f.c) dat) := r2
        by_cases hkl : k < f.dat.length
        · have hk0 : (0 : Int) ≤ (k : Int) := by omega
          have hk1 : (k : Int) < (f.dat.length : Int) := by omega
          have r3 : wr.ownsRow w.heap.size 5 1 (.slice f.a f.dat.length f.c) f.dat.length (dat.map encB) := by have h9 := r2; unfold Ow at h9; rw [hdl] at h9; exact h9
          obtain ⟨b, bc, hbe, -⟩ := row_some r3 (by omega)
          obtain ⟨fa, hfa⟩ : ∃ fa, f.a = fa := ⟨_, rfl⟩
          have HFA2 : Hid (f.a = some ⟨b, 0, none⟩) := by show f.a = _; injection hbe
          have r2' : wr.ownsRow w.heap.size 5 1 (.slice (some ⟨b, 0, none⟩) f.dat.length f.c) f.dat.length (dat.map encB) := by
            have h9 := r3
            rw [HFA2.out] at h9
            exact h9
          have b1 : wr.cell? ⟨b, k, none⟩ = some (encB (dat[k]?.getD 0)) := by
            have h9 := r2'.cellAt k (by omega)
            rw [h9, List.getElem?_map, List.getElem?_eq_getElem (by omega)]; rfl
          have b2 : wr.frozen? ⟨b, k, none⟩ = false := r2'.frozenAt k
          rw [HFA2.out] at r0
          generalize encB (dat[k]?.getD 0) = ub at *
          clear hli hdl r2 r2' r3 hbe hfa
          go_wp2
          refine ⟨⟨k + 1, dat.set k 97, by go_num, by omega, by rw [List.length_set]; exact HDL2.out, ?_⟩, by simp [intOf]; omega⟩
          have h9 := LI.poke (k := k) HLI.out hlt (getD_set hil _) HFA2.out
          rw [List.set_set] at h9
          exact h9
        · have hkg : decide ((k : Int) < (f.dat.length : Int)) = false := by simp; omega
          have hsl := sl_new wr [97] #[.int .u8 97] (by decide) (by decide) rfl
          have hOa := r2.alloc (.cells #[.int .u8 97] 5)
          have hBa : Below wr.heap.size wr (wr.alloc (.cells #[.int .u8 97] 5)) := (Below.refl _ _).alloc (Nat.le_refl _) _
          have hsz := hli.sz
          have HLA : Hid (LI w.heap.size w (wr.alloc (.cells #[.int .u8 97] 5)) (some ⟨g, 0, none⟩) q.fs.length lc (.slice (some ⟨tb, 0, none⟩) q.fs.length tc) (gl.set i ⟨f.nm, f.a, f.c, dat, f.syn⟩) ts) := hli.below hBa
          have HEND : Hid (∀ (w6 : World) (da : Option Addr) (dc : Nat), Ow w.heap.size w6 (.slice da (dat ++ [97]).length dc) (dat ++ [97]) → (wr.alloc (.cells #[.int .u8 97] 5)).grownBy w6 (Value.slice f.a f.dat.length f.c).ownBlock → ((Value.slice da (dat ++ [97]).length dc).ownBlock = (Value.slice f.a f.dat.length f.c).ownBlock ∨ (Value.slice da (dat ++ [97]).length dc).ownBlock = some (wr.alloc (.cells #[.int .u8 97] 5)).heap.size) → LI w.heap.size w (w6.setCell ⟨g, i * 3 + 1, none⟩ (.slice da (dat ++ [97]).length dc)) (some ⟨g, 0, none⟩) q.fs.length lc (.slice (some ⟨tb, 0, none⟩) q.fs.length tc) (gl.set i ⟨f.nm, da, dc, dat ++ [97], f.syn⟩) ts ∧ w6.cell? ⟨g, i * 3 + 1, none⟩ = some (.slice f.a f.dat.length f.c) ∧ w6.frozen? ⟨g, i * 3 + 1, none⟩ = false ∧ w6.cell? ⟨tb, i, none⟩ = some (.string ⟨(ts.getD i []).toArray⟩) ∧ w6.frozen? ⟨tb, i, none⟩ = false) := fun w6 da dc h1 h2 h3 => by
            have e : (Value.slice f.a f.dat.length f.c).ownBlock = (⟨f.nm, f.a, f.c, dat, f.syn⟩ : Fl).x.ownBlock := by unfold Fl.x; simp only; rw [HDL2.out]
            rw [e] at h2 h3
            have h9 := HLA.out.app hlt (getD_set hil _) h1 h2 h3
            rw [List.set_set] at h9
            refine ⟨h9, ?_⟩
            have ha := HIN.out _ dat HDL2.out HLA.out
            have hrow := HLA.out.fi.row
            have hO9 := HLA.out.fi.own _ (getD_mem (show i < (gl.set i ⟨f.nm, f.a, f.c, dat, f.syn⟩).length by simpa using hil))
            rw [getD_set hil] at hO9
            have hgb : w6.heap[g]? = (wr.alloc (.cells #[.int .u8 97] 5)).heap[g]? := h2.block g (World.ownsRow.lt hrow g rfl).2 (fun e2 => row_ty hrow hO9 (by decide) g rfl e2.symm)
            obtain ⟨b', hb', -, ht3, ht4⟩ := HLA.out.tx.at HLA.out.tn hlt
            cases hb'
            have htb : w6.heap[tb]? = (wr.alloc (.cells #[.int .u8 97] 5)).heap[tb]? := h2.block tb (World.ownsRow.lt HLA.out.tx tb rfl).2 (fun e2 => row_ty HLA.out.tx hO9 (by decide) tb rfl e2.symm)
            exact ⟨(World.cell?_of_block (a := ⟨g, i * 3 + 1, none⟩) hgb).trans ha.1, (World.frozen?_of_block (a := ⟨g, i * 3 + 1, none⟩) hgb).trans ha.2.1, (World.cell?_of_block (a := ⟨tb, i, none⟩) htb).trans ht3, (World.frozen?_of_block (a := ⟨tb, i, none⟩) htb).trans ht4⟩
          generalize ts.getD i [] = oldn at *
          have a0 : (wr.alloc (.cells #[.int .u8 97] 5)).cell? ⟨g, i * 3 + 1, none⟩ = some (.slice f.a f.dat.length f.c) := (HIN.out _ dat HDL2.out HLA.out).1
          have hdl5 : dat.length + [(97 : UInt8)].length ≤ 1099511627776 := by rw [hdl]; simp only [List.length_cons, List.length_nil]; omega
          clear hli hdl r2
          go_wp2_with (first
            | (at_builtin; refine wpList_append_ow rfl _ _ rfl w.heap.size (wr.heap.size + 1) _ _ dat [97] rfl hOa rfl hsl hdl5 (by simp; omega) ?_; intro v6 w6 hO6 hg6 hv6; obtain ⟨da, dc, rfl, -, -⟩ := hO6.shape; obtain ⟨hL6, n1, n2, n3, n4⟩ := HEND.out w6 da dc hO6 hg6 hv6; have HL6 : Hid (LI w.heap.size w (w6.setCell ⟨g, i * 3 + 1, none⟩ (.slice da (dat.length + 1) dc)) (some ⟨g, 0, none⟩) q.fs.length lc (.slice (some ⟨tb, 0, none⟩) q.fs.length tc) (gl.set i ⟨f.nm, da, dc, dat ++ [97], f.syn⟩) ts) := (by have e1 : (dat ++ [(97 : UInt8)]).length = dat.length + 1 := (by simp); rw [e1] at hL6; exact hL6); clear hL6 hO6 hg6 hv6)
            | fail)
          refine ⟨⟨i + 1, gl.set i ⟨f.nm, da, dc, dat ++ [97], f.syn⟩, ts.set i [111, 118, 101, 114], by go_num, by omega, HL6.out.over [111, 118, 101, 114], fun x hx => ?_⟩, by simp [intOf]; omega⟩
          rcases mem_set_fl hx with rfl | hx
          · have h1 := HDL2.out
            have h2 := HDD.out f (by rw [← HF.out]; exact getD_mem hil)
            simp only [List.length_append, List.length_cons, List.length_nil]
            omega
          · have := HDD.out x hx
            omega
    · have hgt : decide ((i : Int) < (q.fs.length : Int)) = false := by simp; omega
      have hb : Below w.heap.size w wr.drew := hL.be.trans ⟨rfl, rfl, rfl, Nat.le_refl _, fun _ _ => rfl⟩
      have m0 : wr.cell? ⟨B, 0, none⟩ = some (.slice va q.fs.length vc) := (HK.out wr hL.be).1
      clear hL hD
      go_wp2_with fail
      go_region_held3 (fun w' => w'.cell? ⟨B, 0, none⟩ = some (.slice va q.fs.length vc)) (go_keep)
        (first
          | (go_at_call 32; refine (files_apd (HD.out _ hb)).mono ?_; rintro e w7 ⟨ya, yc, yl, rfl, hF7, hl7, hs7, -, hB7⟩; replace hb := hb.trans (hB7.mono hb.size); have hsm := HSAME.out w7 ya yc yl hb (hF7.flsN hl7) hl7 hs7; have m7 := (HK.out w7 hb).1; clear hF7 hs7 hB7 hl7)
          | (go_at_call 48; refine hsm.mono ?_; rintro e w8 ⟨rfl, hB8⟩; replace hb := hb.trans (hB8.mono hb.size); have m8 := (HK.out w8 hb).1; clear hB8 hsm)
          | fail)
      all_goals (
        have hbz : Below w.heap.size w w8.drew := hb.trans ⟨rfl, rfl, rfl, Nat.le_refl _, fun _ _ => rfl⟩
        have x2 : w8.cell? ⟨B, 2, none⟩ = some (.bool q.dn) := (HK.out w8 hb).2
        clear hb m0
        go_wp2_with fail
        go_region_held3 (fun w' => w'.cell? ⟨B, 2, none⟩ = some (.bool q.dn)) (go_keep)
          (first
            | (go_at_call 50; refine (size_dsk (HD.out _ hbz)).mono ?_; rintro e w15 ⟨rfl, hB15⟩; replace hbz := hbz.trans (hB15.mono hbz.size); clear hB15; have m15 := (HK.out _ hbz).2)
            | (go_at_call 51; refine (refSize_any (HR.out _ hbz)).mono ?_; rintro e wz ⟨rfl, hz⟩; subst wz)
            | (go_at_call 52; refine (down_dsk (HD.out _ hbz)).mono ?_; rintro e wz ⟨rfl, hz⟩; subst wz)
            | fail)
        all_goals (go_wp2; go_ret; exact ⟨by simp, hbz⟩))
end Go.Proofs.YtadajbdmlmickaaGreatDoor
