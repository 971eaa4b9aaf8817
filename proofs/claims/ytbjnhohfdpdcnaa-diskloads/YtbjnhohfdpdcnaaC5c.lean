/-
  Crash, of a disk with a last file: a way through.
-/
import Derived.Test.YtbjnhohfdpdcnaaC5
namespace Go.Proofs.Ytbjnhohfdpdcnaa
open Go.RowKit

set_option maxRecDepth 100000 in
set_option maxHeartbeats 8000000 in
theorem crash_c {S : Nat → Prop} {w : World} {d : Nat} {k : DS} (h : DkC S w d k) (keep : Int) {r : Rw} (hr : r ∈ k.rs) (hl : k.last = some r.b) (hk0 : ¬ 0 ≤ keep) : Calls Try.prog 28 #[.pointer (some ⟨d, 0, none⟩), .int .i64 keep] w fun r w' => ∃ k', r = .returned (.tuple #[]) ∧ At S w w' d k' ∧ k'.pd = doCrash k.pd keep := by
  obtain ⟨⟨c0, c1, c2, c3⟩, f1, f2, f3⟩ := h.cells
  have h0 := At.start h
  have hF := h.fs r hr
  obtain ⟨⟨g0, g1⟩, g2, g3⟩ := hF.cells
  obtain ⟨av, capv, hv, hlc, hcm⟩ := hF.own.shape
  have hsyn := hF.syn
  have hdl : r.dat.length ≤ 16777216 := by have h7 := sum_del_le hr; have := h.all; omega
  unfold maxLen at hcm
  rw [hv] at g0
  have HB : Hid (∀ n : Nat, n = r.syn + min keep.toNat (r.dat.length - r.syn) → At S w (w.setCell ⟨r.b, 1, none⟩ (.int .i64 (n : Int))).drew d { k with rs := k.rs.map (repl (bump keep r)) }) := fun n hn => (h0.bumped hr keep n hn).drew
  obtain ⟨K, hKe⟩ : ∃ K : DS, K = { k with rs := k.rs.map (repl (bump keep r)) } := ⟨_, rfl⟩
  have HPDr : Hid ((DS.mk K.m (K.rs.map cutR) none 0 false).pd = doCrash k.pd keep) := by
    show _ = _
    rw [hKe]
    exact crash_pd h0 keep (.inr ⟨r, hr, hl, rfl⟩)
  rw [hl] at c1
  unfold ptrV at c1
  clear h h0 hF hv hl
  have hki : (0 : Int) ≤ (r.dat.length : Int) - (r.syn : Int) := by omega
  have HKP : Hid (keep < 0) := by show keep < 0; omega
  go_enter Try.func28, Try.ntmps28
  go_wp2
  go_region
  have hAt : At S w (w.setCell ⟨r.b, 1, none⟩ (.int .i64 ((r.syn : Int)))).drew d { k with rs := k.rs.map (repl (bump keep r)) } := by
    have hkk := HKP.out
    have h9 := HB.out (r.syn) (by omega)
    have e9 : (((r.syn : Nat)) : Int) = (r.syn : Int) := by omega
    rw [e9] at h9
    exact h9
  generalize (w.setCell ⟨r.b, 1, none⟩ (.int .i64 ((r.syn : Int)))).drew = W1 at hAt ⊢
  have HPD : Hid ((DS.mk K.m (K.rs.map cutR) none 0 false).pd = doCrash k.pd keep) := HPDr.out
  rw [← hKe] at hAt
  have HAP : Hid (K.rs.Pairwise Apart) := hAt.dk.ap
  have HNM : Hid (∀ q ∈ K.rs, ∀ r ∈ K.rs, q.b ≠ r.b → q.nm ≠ r.nm) := fun q hq r hr hne => hAt.dk.nm_ne hr hq hne
  have hmm0 := hAt.dk.hm
  obtain ⟨⟨e0, -⟩, -⟩ := hAt.dk.cells
  clear hKe
  go_wp2_with (first
    | (at_range; refine wpList_range_own _ rfl _ 62 rfl 9 63 law9 Try.underlying62 ptrElem K.m K.rs.length _ rfl hmm0 ?_; intro w1 hrg0 hg0 hs0)
    | go_in)
  have hA1 : At S w w1 d K := hAt.below ((Below.refl _ W1).grown hg0 (Nat.le_refl _) (fun k e => by cases e))
  have HI0 : Hid (w.heap.size ≤ W1.heap.size) := hAt.out.size
  clear hmm0 hs0 hAt hg0
  (try go_frame)
  go_loopw [5] (fun _ wr => ∃ (left : Lit → Bool) (cnt : Nat), wr.ranges Try.prog 9 ptrElem K.m W1.heap.size K.rs.length (.map (K.rs.map Rw.ent)) left cnt ∧ At S w wr d { K with rs := K.rs.map (cutIf left) })
    (fun _ wr => wr.rangeLeft K.m W1.heap.size)
  case atStart =>
    refine ⟨_, _, hrg0, ?_⟩
    rw [cutIf_all (fun r hr => by rw [has_ents, hA1.dk.look hr]; rfl)]
    exact hA1
  case round =>
    obtain ⟨left, cnt, hrg, hA⟩ := hrel
    have HA : Hid (At S w wr d { K with rs := K.rs.map (cutIf left) }) := hA
    have HRG : Hid (wr.ranges Try.prog 9 ptrElem K.m W1.heap.size K.rs.length (.map (K.rs.map Rw.ent)) left cnt) := hrg
    obtain ⟨⟨b0, b1, b2, b3⟩, t1, t2, t3⟩ := hA.dk.cells
    clear hA
    go_wp2_with (first
      | (at_next; refine wpList_next_disk rfl _ rfl K.m W1.heap.size K.rs.length K.rs left cnt rfl hrg ?_ ?_)
      | go_in)
    · intro _ hl0
      go_wp2
      go_end0
      have hz := HA.out.calm
      rw [cutIf_none hl0] at hz
      exact ⟨_, rfl, hz, HPD.out⟩
    · intro f w2 cnt2 hf hlk hfl hleft hrg2 hlt hg2 hs2 hen
      obtain ⟨ia, ib, isn, ic, hii⟩ := ranges_iter HRG.out
      have hA2 := HA.out.iter hii hg2 HI0.out hs2
      have hfm : f ∈ K.rs.map (cutIf left) := List.mem_map.2 ⟨f, hf, by unfold cutIf; rw [if_pos hleft]⟩
      have hF := hA2.dk.fs f hfm
      have hA3 := hA2.cutF hfm
      obtain ⟨⟨g0, g1⟩, g2, g3⟩ := hF.cells
      obtain ⟨av, capv, hv, hlc, hcm⟩ := hF.own.shape
      have hsyn := hF.syn
      unfold maxLen at hcm
      have HA3 : Hid (At S w (w2.setCell ⟨f.b, 0, none⟩ (.slice av f.syn capv)) d { K with rs := K.rs.map (cutIf fun z => left z && !z.sameKey (.string f.nm)) }) := by
        show At S w _ d _
        rw [hv] at hA3
        have e := cutIf_step (left := left) HAP.out HNM.out hf
        simp only at hA3
        rw [e] at hA3
        exact hA3
      have hne1 : some K.m ≠ some f.b := fun e => by
        obtain ⟨es, clock, hbm, _⟩ := hA2.dk.hm
        exact hF.ne hbm (by simp) (by simpa using e.symm)
      have hne2 : some W1.heap.size ≠ some f.b := fun e => by
        obtain ⟨ia, ib, isn, ic, hii2⟩ := ranges_iter hrg2
        exact hF.ne hii2 (by simp) (by simpa using e.symm)
      have HRG3 : Hid ((w2.setCell ⟨f.b, 0, none⟩ (.slice av f.syn capv)).ranges Try.prog 9 ptrElem K.m W1.heap.size K.rs.length (.map (K.rs.map Rw.ent)) (fun z => left z && !z.sameKey (.string f.nm)) cnt2) :=
        hrg2.kept (row := some f.b) ⟨rfl, rfl, rfl, by simp [World.setCell], fun i _ hi => Below.heap_setCell _ _ _ _ (fun e => hi (by rw [e]))⟩ hne1 hne2
      have HLT : Hid (cnt2 < cnt) := hlt
      rw [hv] at g0
      clear hs2 hlk hA2 hF hA3 hv hrg2 hlt hg2 hne1 hne2 hii hfm hf hleft b0 b1 b2 b3 t1 t2 t3
      go_wp2
      go_region
      all_goals (go_wp2; go_roundw)
      case rel => exact ⟨_, cnt2, ranges_drew HRG3.out, HA3.out.drew⟩
      case measure => rw [(ranges_drew HRG3.out).left_eq, HRG.out.left_eq]; exact HLT.out

end Go.Proofs.Ytbjnhohfdpdcnaa
