/-
  Load: a disk of files.
-/
import Derived.Test.YtbjnhohfdpdcnaaL1
namespace Go.Proofs.Ytbjnhohfdpdcnaa
open Go.RowKit
set_option linter.unusedVariables false

def Fl.pf (f : Fl) : PF := ⟨f.nm, f.dat, f.syn.toNat, false⟩
/-- The disk of files. -/
def loadP (fs : List Fl) : PD := ⟨fs.foldl (fun l f => insP f.pf (delP f.nm l)) [], 0, false⟩
theorem loadP_step {fs : List Fl} {i : Nat} (h : i < fs.length) : (loadP (fs.take (i + 1))).fs = insP (fs.getD i nilFl).pf (delP (fs.getD i nilFl).nm (loadP (fs.take i)).fs) := by
  unfold loadP
  rw [take_fl h, List.foldl_append]; rfl

/-- What an errorless list of files keeps to. -/
theorem chkFls_ok : ∀ {fs : List Fl} {A : List (List UInt8)}, chkFls A fs = 0 → ∀ f ∈ fs, isNm f.nm = true ∧ 0 ≤ f.syn ∧ f.syn ≤ (f.dat.length : Int)
  | [], _, _, _, hf => by simp at hf
  | g :: r, A, h, f, hf => by
    unfold chkFls at h
    by_cases hz : chkFl A g = 0
    · rw [if_neg (by simpa using hz)] at h
      rcases List.mem_cons.1 hf with rfl | hf
      · unfold chkFl at hz
        cases hn : isNm f.nm with
        | false => rw [hn] at hz; simp at hz
        | true =>
          rw [hn] at hz
          simp only [Bool.true_eq_false, if_false] at hz
          split at hz
          · simp at hz
          · split at hz
            · simp at hz
            · rename_i h9
              exact ⟨rfl, by omega, by omega⟩
      · exact chkFls_ok h f hf
    · rw [if_pos hz] at h
      exact absurd h hz
theorem chkFls_names : ∀ {fs : List Fl} {A : List (List UInt8)}, chkFls A fs = 0 → (∀ f ∈ fs, f.nm ∉ A) ∧ (fs.map Fl.nm).Nodup
  | [], _, _ => by simp
  | g :: r, A, h => by
    unfold chkFls at h
    by_cases hz : chkFl A g = 0
    · rw [if_neg (by simpa using hz)] at h
      obtain ⟨h1, h2⟩ := chkFls_names h
      have hg : g.nm ∉ A := fun hm => by
        unfold chkFl at hz
        split at hz
        · simp at hz
        · rw [if_pos (by simpa using hm)] at hz
          simp at hz
      refine ⟨fun f hf => ?_, ?_⟩
      · rcases List.mem_cons.1 hf with rfl | hf
        · exact hg
        · exact fun hm => h1 f hf (by simp [hm])
      · rw [List.map_cons, List.nodup_cons]
        refine ⟨fun hm => ?_, h2⟩
        obtain ⟨f, hf, he⟩ := List.mem_map.1 hm
        exact h1 f hf (by simp [he])
    · rw [if_pos hz] at h
      exact absurd h hz

/-- One file more, in new memory. -/
theorem At.loaded {S : Nat → Prop} {w0 w w1 w' : World} {d n : Nat} {k : DS} {r : Rw} (h : At S w0 w d k) (hB : Below w.heap.size w w1) (hb : r.b = w1.heap.size) (hO : Ow w.heap.size w1 r.v r.dat) (hsyn : r.syn ≤ r.dat.length) (hnm : r.nm.length ≤ 32)
    (hm : w'.ownsMap Try.prog 9 ptrElem k.m n (.map ((insR r (delR r.nm k.rs)).map Rw.ent))) (ht : (w1.alloc (.cells #[r.v, .int .i64 (r.syn : Int)] 79)).mapTurned w' k.m) (hl : k.last = none) (hfew : k.rs.length < 256) (hsum : sumLen k.rs + r.dat.length ≤ 16777216) :
    At S w0 w' d { k with rs := insR r (delR r.nm k.rs) } := by
  have hsz := turned_size ht
  have h1 := (h.below hB).alloc (.cells #[r.v, .int .i64 (r.syn : Int)] 79)
  have hlt := h.out.size
  have hz1 := hB.size
  refine h1.go ((turned_out ht).mono (fun i hi => by rw [hi]; exact h1.dk.Sm)) ?_
  have hold : ∀ q ∈ delR r.nm k.rs, q ∈ k.rs := fun q hq => (mem_delR.1 hq).1
  have hown : ∀ g, r.v.ownBlock = some g → w.heap.size ≤ g ∧ g < w1.heap.size := fun g hg => World.ownsRow.lt hO g hg
  have hdk := h1.dk.turnM (turned_out ht) hsz _ hm ?_ (apart_insR (apart_delR h.dk.ap) ?_) ?_ ?_ ?_
  · exact hdk.mono (fun i hi => grew_mono (by omega) hi) (fun i hi => by have := h1.dk.inn i (grew_mono (by omega) hi); omega)
  · intro q hq
    rcases mem_insR.1 hq with rfl | hq
    · refine ⟨⟨by rw [hb]; exact heap_alloc_new w1 _, (hO.base (Nat.zero_le _)).alloc _, hsyn, hnm⟩, .inr ⟨by omega, by rw [hb]; simp⟩, fun g hg => .inr ⟨by have := hown g hg; omega, by have := hown g hg; simp; omega⟩⟩
    · exact ⟨h1.dk.fs q (hold q hq), h1.dk.Sf q (hold q hq)⟩
  · intro q hq
    have hq1 := h.dk.inn _ (h.dk.Sf q (hold q hq)).1
    refine ⟨fun e => by omega, fun g hg he => ?_⟩
    have := h.dk.inn _ ((h.dk.Sf q (hold q hq)).2 g he)
    have := hown g hg
    omega
  · intro b hb'
    rw [hl] at hb'
    cases hb'
  · rw [len_insR]
    have := len_delR r.nm k.rs
    omega
  · rw [sum_insR]
    have := sum_delR r.nm k.rs
    omega

theorem sum_pd (k : DS) : sumP k.pd.fs = sumLen k.rs := sum_pf _ _
theorem sumP_insP (f : PF) (l : List PF) : sumP (insP f l) = f.dat.length + sumP l := by
  induction l with
  | nil => rfl
  | cons y q ih =>
    unfold insP
    split
    · simp [sumP]
    · simp only [sumP, List.map_cons, List.sum_cons] at *
      omega
theorem sumP_delP (nm : List UInt8) (l : List PF) : sumP (delP nm l) ≤ sumP l := by
  induction l with
  | nil => simp [delP, sumP]
  | cons y q ih =>
    unfold delP sumP at *
    by_cases h : y.nm == nm <;> simp [h] <;> omega
theorem len_insP (f : PF) (l : List PF) : (insP f l).length = l.length + 1 := by
  induction l with
  | nil => rfl
  | cons y q ih => unfold insP; split <;> simp [ih]
theorem load_bounds (fs : List Fl) : ∀ i, i ≤ fs.length → (loadP (fs.take i)).fs.length ≤ i ∧ sumP (loadP (fs.take i)).fs ≤ sumF (fs.take i)
  | 0, _ => by simp [loadP, sumP]
  | i + 1, hi => by
    obtain ⟨h1, h2⟩ := load_bounds fs i (by omega)
    rw [loadP_step (by omega), sumF_take (by omega), len_insP, sumP_insP]
    have h3 : (delP (fs.getD i nilFl).nm (loadP (fs.take i)).fs).length ≤ (loadP (fs.take i)).fs.length := List.length_filter_le _ _
    have h4 := sumP_delP (fs.getD i nilFl).nm (loadP (fs.take i)).fs
    have h5 : (fs.getD i nilFl).pf.dat.length = (fs.getD i nilFl).dat.length := rfl
    omega

set_option maxRecDepth 100000 in
set_option maxHeartbeats 8000000 in
theorem load_any (a : Option Addr) (c : Nat) (fs : List Fl) (N : Nat) (w : World) (h : FlsAt N w a fs) (hN : N ≤ w.heap.size) (hz : ∀ f ∈ fs, f.dat.length ≤ 1099511627776 ∧ f.nm.length ≤ maxLen) (hl : fs.length ≤ 1000000) (hok : loadE fs = 0) :
    Calls Try.prog 15 #[.slice a fs.length c] w fun r w' => ∃ d S, r = .returned (.tuple #[.pointer (some ⟨d, 0, none⟩), .int .i64 0]) ∧ Dsk w.heap.size w' S d (loadP fs) ∧ Below w.heap.size w w' := by
  have H1 : Hid (FlsAt N w a fs) := h
  have HZ : Hid (∀ f ∈ fs, f.dat.length ≤ 1099511627776 ∧ f.nm.length ≤ maxLen) := hz
  have hck := checkAll_any a c fs N w h hN hz hl
  rw [hok] at hck
  have HK : Hid (chkFls [] fs = 0 ∧ fs.length ≤ 256 ∧ sumF fs ≤ 16777216) := by
    show _ ∧ _ ∧ _
    unfold loadE at hok
    by_cases h0 : chkFls [] fs = 0
    · rw [if_neg (by simpa using h0)] at hok
      split at hok
      · simp at hok
      · exact ⟨h0, by omega, by omega⟩
    · rw [if_pos h0] at hok
      exact absurd hok h0
  clear h hz hok
  go_enter Try.func15, Try.ntmps15
  go_wp2_with fail
  refine hck.mono ?_
  rintro e w1 ⟨rfl, hB1⟩
  go_wp2_with fail
  refine (new_any w1).mono ?_
  rintro e w2 ⟨rfl, hw2⟩
  have hdk := new_dk w1
  rw [← hw2] at hdk
  have hB2 : Below w1.heap.size w1 w2 := by rw [hw2]; exact ((Below.refl _ w1).alloc (Nat.le_refl _) _).alloc (by simp) _
  have HB2 : Hid (Below w.heap.size w w2) := hB1.trans (hB2.mono hB1.size)
  have HNW : Hid (w.heap.size ≤ w1.heap.size) := hB1.size
  obtain ⟨d, hd⟩ : ∃ d, w1.heap.size + 1 = d := ⟨_, rfl⟩
  rw [hd] at hdk ⊢
  clear hw2 hd hck hB1 hB2
  go_wp2_with fail
  go_loopw [16] (fun iv wr => ∃ (i : Nat) (k : DS) (S : Nat → Prop), iv = .int .i64 (i : Int) ∧ i ≤ fs.length ∧ DkC S wr d k ∧ k.pd = loadP (fs.take i) ∧ k.last = none ∧ (∀ j, S j → w.heap.size ≤ j) ∧ Below w.heap.size w wr) (fun iv _ => fs.length - (intOf iv).toNat)
  case atStart => exact ⟨0, _, _, rfl, Nat.zero_le _, hdk, rfl, rfl, fun j hj => by have := HNW.out; omega, HB2.out⟩
  case round =>
    obtain ⟨i, k, S, rfl, hi, hD, hpd, hla, hS, hB⟩ := hrel
    have HB : Hid (Below w.heap.size w wr) := hB
    have HD : Hid (DkC S wr d k) := hD
    have HS : Hid (∀ j, S j → w.heap.size ≤ j) := hS
    have HP : Hid (k.pd = loadP (fs.take i)) := hpd
    have HLA : Hid (k.last = none) := hla
    clear hpd hla hS
    by_cases hlt : i < fs.length
    · obtain ⟨b, off, rfl, hb1, hx⟩ := H1.out.at hlt
      obtain ⟨p0, p1, p2, p3⟩ := hx.below hb1 (hB.mono hN)
      have hbd := load_bounds fs i (by omega)
      have hst := sumF_take hlt
      have hstl := sumF_take_le fs (i + 1)
      have HLS := loadP_step hlt
      obtain ⟨hnn, hy0, hy1⟩ := chkFls_ok HK.out.1 _ (getD_fl hlt)
      obtain ⟨h9, h8⟩ := HZ.out _ (getD_fl hlt)
      have hHK := HK.out
      rw [← HP.out, sum_pd] at hbd
      have hlr : k.rs.length = k.pd.fs.length := by simp [DS.pd]
      generalize fs.getD i nilFl = f at *
      obtain ⟨nm, fa, fc, dat, syn⟩ := f
      unfold Fl.x at p1 p3
      simp only at p0 p1 p2 p3 h8 h9 hnn hy0 hy1 hst HLS
      obtain ⟨y, rfl⟩ : ∃ y : Nat, syn = (y : Int) := ⟨syn.toNat, by omega⟩
      have hsumok : sumLen k.rs + dat.length ≤ 16777216 := by omega
      have hfewok : k.rs.length < 256 := by omega
      have hBa : Below wr.heap.size wr (wr.alloc (.cells #[.string ⟨nm.toArray⟩, .slice fa dat.length fc, .int .i64 (y : Int)] 37)) := (Below.refl _ wr).alloc (Nat.le_refl _) _
      have hA0 := (At.start hD).below hBa
      obtain ⟨⟨e0, -⟩, -⟩ := hA0.dk.cells
      have hHB : (wr.alloc (.cells #[.string ⟨nm.toArray⟩, .slice fa dat.length fc, .int .i64 (y : Int)] 37)).heap[wr.heap.size]? = some (.cells #[.string ⟨nm.toArray⟩, .slice fa dat.length fc, .int .i64 (y : Int)] 37 (0, 0)) := heap_alloc_new wr _
      have hp3 := ((p3.below (hBa.mono (by have := HB.out.size; omega))).mono (show N ≤ wr.heap.size + 1 by have := HB.out.size; omega))
      obtain ⟨W1, hW1⟩ : ∃ W1, wr.alloc (.cells #[.string ⟨nm.toArray⟩, .slice fa dat.length fc, .int .i64 (y : Int)] 37) = W1 := ⟨_, rfl⟩
      have HW1 : Hid (wr.alloc (.cells #[.string ⟨nm.toArray⟩, .slice fa dat.length fc, .int .i64 (y : Int)] 37) = W1) := hW1
      have hzW : W1.heap.size = wr.heap.size + 1 := by rw [← hW1]; simp
      rw [hW1] at hA0 e0 hHB hp3 hBa
      have HBW : Hid (Below w.heap.size w W1) := HB.out.trans (hBa.mono HB.out.size)
      have HA0 : Hid (At S wr W1 d k) := hA0
      have m0 : W1.cell? ⟨wr.heap.size, 0, none⟩ = some (.string ⟨nm.toArray⟩) := by simp only [World.cell?, hHB]; rfl
      have m1 : W1.cell? ⟨wr.heap.size, 1, none⟩ = some (.slice fa dat.length fc) := by simp only [World.cell?, hHB]; rfl
      have m2 : W1.cell? ⟨wr.heap.size, 2, none⟩ = some (.int .i64 (y : Int)) := by simp only [World.cell?, hHB]; rfl
      have hfr := fresh_any (wr.heap.size + 1) _ dat W1.drew (hp3.below ⟨rfl, rfl, rfl, Nat.le_refl _, fun _ _ => rfl⟩) h9
      have HNX : Hid ((loadP (fs.take (i + 1))) = { loadP (fs.take i) with fs := insP ⟨nm, dat, y, false⟩ (delP nm (loadP (fs.take i)).fs) }) := by
        show loadP _ = _
        have e1 : (loadP (fs.take (i + 1))).arm = 0 := rfl
        have e2 : (loadP (fs.take (i + 1))).dn = false := rfl
        show PD.mk (loadP (fs.take (i + 1))).fs 0 false = _
        rw [HLS]
        rfl
      have HAF : Hid (∀ w5 ba bc w7, Below W1.heap.size W1 w5 → Ow W1.heap.size w5 (.slice ba dat.length bc) dat → w7.ownsMap Try.prog 9 ptrElem k.m (k.rs.length + 1) (.map ((insR ⟨nm, w5.heap.size, .slice ba dat.length bc, dat, y⟩ (delR nm k.rs)).map Rw.ent)) → (w5.alloc (.cells #[.slice ba dat.length bc, .int .i64 (y : Int)] 79)).mapTurned w7 k.m →
          At S wr w7 d { k with rs := insR ⟨nm, w5.heap.size, .slice ba dat.length bc, dat, y⟩ (delR nm k.rs) }) := fun w5 ba bc w7 q1 q2 q3 q4 =>
        HA0.out.loaded (r := ⟨nm, w5.heap.size, .slice ba dat.length bc, dat, y⟩) q1 rfl q2 (by show y ≤ dat.length; omega) (isNm_len hnn) q3 q4 HLA.out hfewok hsumok
      have HPF : Hid (∀ b v, ({ k with rs := insR ⟨nm, b, v, dat, y⟩ (delR nm k.rs) } : DS).pd = loadP (fs.take (i + 1))) := fun b v => by
        rw [HNX.out, ← HP.out]
        show PD.mk ((insR ⟨nm, b, v, dat, y⟩ (delR nm k.rs)).map (Rw.pf k.last)) k.arm k.dn = PD.mk (insP ⟨nm, dat, y, false⟩ (delP nm (k.rs.map (Rw.pf k.last)))) k.arm k.dn
        rw [ins_pf, del_pf]
        have : Rw.pf k.last ⟨nm, b, v, dat, y⟩ = ⟨nm, dat, y, false⟩ := by unfold Rw.pf; rw [HLA.out]; rfl
        rw [this]
      have hi1 : (i : Int) < (fs.length : Int) := by omega
      have HM0 : Hid (∀ w5, Below W1.heap.size W1 w5 → w5.ownsMap Try.prog 9 ptrElem k.m k.rs.length (.map (k.rs.map Rw.ent))) := fun w5 q => (HA0.out.below q).dk.hm
      have HC0 : Hid (∀ w5, Below W1.heap.size W1 w5 → w5.cell? ⟨d, 0, none⟩ = some (.map (some k.m)) ∧ w5.cell? ⟨wr.heap.size, 0, none⟩ = some (.string ⟨nm.toArray⟩) ∧ w5.cell? ⟨wr.heap.size, 1, none⟩ = some (.slice fa dat.length fc) ∧ w5.cell? ⟨wr.heap.size, 2, none⟩ = some (.int .i64 (y : Int))) := fun w5 q =>
        ⟨(q.cell (p := ⟨d, 0, none⟩) (by have := HA0.out.dk.inn _ HA0.out.dk.Sd; exact this)).trans e0, (q.cell (p := ⟨wr.heap.size, 0, none⟩) (by show wr.heap.size < _; omega)).trans m0, (q.cell (p := ⟨wr.heap.size, 1, none⟩) (by show wr.heap.size < _; omega)).trans m1, (q.cell (p := ⟨wr.heap.size, 2, none⟩) (by show wr.heap.size < _; omega)).trans m2⟩
      have HFB : Hid (∀ w5 w7, Below W1.heap.size W1 w5 → ∀ {o : Obj}, Out (· = k.m) (w5.alloc o) w7 → ∀ q, w7.cell? ⟨wr.heap.size, q, none⟩ = w5.cell? ⟨wr.heap.size, q, none⟩) := fun w5 w7 q1 o q2 q => by
        have h11 : wr.heap.size < w5.heap.size := by have := q1.size; omega
        have h12 : wr.heap.size ≠ k.m := fun e => by have h13 := HD.out.inn _ HD.out.Sm; omega
        refine World.cell?_of_block (a := ⟨wr.heap.size, q, none⟩) ?_
        exact (q2.block wr.heap.size (by simp; omega) h12).trans (Below.heap_alloc _ _ _ h11)
      clear hx hB hD p3 hA0 hBa hHB hp3 hbd hst hstl HLS hHK hlr hsumok hnn hy0 hy1 h9 hzW hW1
      go_wp2_with fail
      rw [HW1.out]
      go_region_held3 (fun w' => w'.cell? ⟨d, 0, none⟩ = some (.map (some k.m)) ∧ w'.cell? ⟨wr.heap.size, 0, none⟩ = some (.string ⟨nm.toArray⟩) ∧ w'.cell? ⟨wr.heap.size, 1, none⟩ = some (.slice fa dat.length fc) ∧ w'.cell? ⟨wr.heap.size, 2, none⟩ = some (.int .i64 (y : Int))) (go_keep)
        (first
          | (go_at_call 51; refine hfr.mono ?_; rintro e w5 ⟨v5, rfl, hO5, hB5⟩; obtain ⟨ba, bc, rfl, -, -⟩ := hO5.shape; have hB5x : Below W1.heap.size W1 w5 := ⟨hB5.os, hB5.tape, hB5.output, hB5.size, hB5.block⟩; obtain ⟨x0, x1, x2, x3⟩ := HC0.out w5 hB5x; obtain ⟨w7, hrun7, hm7, ht7⟩ := World.ownsMap.store ((HM0.out w5 hB5x).alloc (.cells #[.slice ba dat.length bc, .int .i64 (y : Int)] 79)) law9 Try.underlying62 (by unfold maxLen; omega) (val := .pointer (some ⟨w5.heap.size, 0, none⟩)) (d := .lit (.int .i64 ((w5.heap.size : Nat) : Int))) (ps := []) (key9 nm h8) rfl; rw [put_ents k.rs ⟨nm, w5.heap.size, .slice ba dat.length bc, dat, y⟩] at hm7; have hA7 := HAF.out w5 ba bc w7 hB5x hO5 hm7 ht7; have HO7 : Out (· = k.m) (w5.alloc (.cells #[.slice ba dat.length bc, .int .i64 (y : Int)] 79)) w7 := turned_out ht7; obtain ⟨⟨z0, -⟩, -⟩ := hA7.dk.cells; have hfb : ∀ o, w7.cell? ⟨wr.heap.size, o, none⟩ = w5.cell? ⟨wr.heap.size, o, none⟩ := HFB.out w5 w7 hB5x HO7; have z1 := (hfb 0).trans x1; have z2 := (hfb 1).trans x2; have z3 := (hfb 2).trans x3; clear hfb hm7 ht7 HO7 hO5 hB5)
          | fail)
      have HEND : Hid (At S wr w7 d { k with rs := insR ⟨nm, w5.heap.size, .slice ba dat.length bc, dat, y⟩ (delR nm k.rs) }) := hA7
      clear hA7 hrun7 x0 x1 x2 x3 z0 z1 z2 z3
      go_wp2
      refine ⟨⟨i + 1, _, _, by go_num, by omega, HEND.out.dk, HPF.out _ _, HLA.out, fun j hj => ?_, HB.out.trans (HEND.out.out.below HB.out.size HS.out)⟩, by simp [intOf]; omega⟩
      exact hj.elim (HS.out j) (fun h9 => Nat.le_trans HB.out.size h9.1)
    · have e9 : fs.take i = fs := List.take_of_length_le (by omega)
      have hh := HP.out
      rw [e9] at hh
      go_wp2
      go_ret2
      exact ⟨d, S, rfl, ⟨k, HD.out, hh, HS.out⟩, HB.out⟩

end Go.Proofs.Ytbjnhohfdpdcnaa
