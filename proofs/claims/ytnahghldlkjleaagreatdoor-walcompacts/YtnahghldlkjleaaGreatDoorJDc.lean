/-
  Crash: what it leaves of a disk. Crash, of a disk with a last file: a way through. Crash, of a disk with a last file: a way through. Crash, of a disk with a last file: a way through. Crash: what it leaves of a disk.
-/
import Derived.Test.YtnahghldlkjleaaGreatDoorJDb
import Derived.BigRegion
namespace Go.Proofs.YtnahghldlkjleaaGreatDoor
open Go.RowKit

def cutV : Value → Nat → Value
  | .slice a _ c, n => .slice a n c
  | v, _ => v
/-- A file without what isn't durable. -/
def cutR (r : Rw) : Rw := { r with v := cutV r.v r.syn, dat := r.dat.take r.syn }
def cutIf (left : Lit → Bool) (r : Rw) : Rw := if left (.string r.nm) then r else cutR r
theorem cutIf_b (left : Lit → Bool) (r : Rw) : (cutIf left r).b = r.b := by unfold cutIf; split <;> rfl
theorem cutIf_nm (left : Lit → Bool) (r : Rw) : (cutIf left r).nm = r.nm := by unfold cutIf; split <;> rfl
theorem cutIf_ents (left : Lit → Bool) (rs : List Rw) : (rs.map (cutIf left)).map Rw.ent = rs.map Rw.ent := by
  rw [List.map_map]
  exact List.map_congr_left fun r _ => by simp [Function.comp, Rw.ent, cutIf_b, cutIf_nm]
theorem cutIf_all {left : Lit → Bool} {rs : List Rw} (h : ∀ r ∈ rs, left (.string r.nm) = true) : rs.map (cutIf left) = rs := by
  have : rs.map (cutIf left) = rs.map id := List.map_congr_left fun r hr => by unfold cutIf; rw [if_pos (h r hr)]; rfl
  rw [this, List.map_id]
theorem cutIf_none {left : Lit → Bool} {rs : List Rw} (h : ∀ kl, left kl = false) : rs.map (cutIf left) = rs.map cutR :=
  List.map_congr_left fun r _ => by unfold cutIf; rw [h]; rfl
theorem cutIf_step {left : Lit → Bool} {rs : List Rw} (hap : rs.Pairwise Apart) (hnm : ∀ q ∈ rs, ∀ r ∈ rs, q.b ≠ r.b → q.nm ≠ r.nm) {f : Rw} (hf : f ∈ rs) : (rs.map (cutIf left)).map (repl (cutR f)) = rs.map (cutIf fun z => left z && !z.sameKey (.string f.nm)) := by
  rw [List.map_map]
  refine List.map_congr_left fun q hq => ?_
  show (if (cutIf left q).b = f.b then cutR f else cutIf left q) = _
  rw [cutIf_b]
  by_cases e : q.b = f.b
  · obtain rfl := apart_eq hap hf hq e
    rw [if_pos rfl]
    unfold cutIf
    simp [Lit.sameKey]
  · rw [if_neg e]
    have := hnm q hq f hf e
    unfold cutIf
    simp [Lit.sameKey, this]

/-- Only a range's iterator has turned. -/
theorem At.iter {S : Nat → Prop} {w0 w w' : World} {d it : Nat} {k : DS} (h : At S w0 w d k) {a : Option Nat} {b c : Nat} {sn : Array Nat} (hi : w.heap[it]? = some (.mapIter a b sn c)) (hg : w.grownBy w' (some it)) (hnew : w0.heap.size ≤ it) (hsz : w'.heap.size = w.heap.size) : At S w0 w' d k := by
  have hO : Out (· = it) w w' := Out.grown hg (fun j hj => by simpa using hj.symm)
  have hlt := (Array.getElem?_eq_some_iff.1 hi).1
  refine h.go (hO.mono (fun i e => by rw [e]; exact .inr ⟨hnew, hlt⟩)) ?_
  obtain ⟨es, clock, hbm, _⟩ := id h.dk.hm
  have hT : ∀ i, grew S w0 w i → grew S w0 w' i := fun i hi => grew_mono (by omega) hi
  refine ⟨(hO.block d (h.dk.inn _ h.dk.Sd) (fun e => ?_)).trans h.dk.hd, ownsMap_out h.dk.hm hO (fun e => ?_), fun r hr => (h.dk.fs r hr).out hO ((h.dk.fs r hr).ne hi (by simp)) ((h.dk.fs r hr).ne2 hi (by simp)), h.dk.ap, h.dk.la, h.dk.few, h.dk.all, h.dk.arm, hT _ h.dk.Sd, hT _ h.dk.Sm, fun r hr => ⟨hT _ (h.dk.Sf r hr).1, fun g hg' => hT _ ((h.dk.Sf r hr).2 g hg')⟩, fun i hi' => by have := h.dk.inn i (grew_mono (by omega) hi'); omega⟩
  · have := h.dk.hd
    rw [e, hi] at this
    cases this
  · rw [e, hi] at hbm
    cases hbm
theorem ranges_iter {w : World} {B r n : Nat} {D : DataW Unit} {left : Lit → Bool} {cnt : Nat} (h : w.ranges Tryz.prog 9 ptrElem B r n D left cnt) : ∃ a b sn c, w.heap[r]? = some (.mapIter a b sn c) := by
  obtain ⟨_, _, _, _, _, _, _, _, _, hit, _⟩ := h
  exact ⟨_, _, _, _, hit⟩
theorem ranges_drew {w : World} {B r n : Nat} {D : DataW Unit} {left : Lit → Bool} {cnt : Nat} (h : w.ranges Tryz.prog 9 ptrElem B r n D left cnt) : w.drew.ranges Tryz.prog 9 ptrElem B r n D left cnt := h
theorem At.drew {S : Nat → Prop} {w0 w : World} {d : Nat} {k : DS} (h : At S w0 w d k) : At S w0 w.drew d k := h.below ⟨rfl, rfl, rfl, Nat.le_refl _, fun _ _ => rfl⟩

/-- The last file's durable bytes grow. -/
def bump (keep : Int) (r : Rw) : Rw := { r with syn := r.syn + min keep.toNat (r.dat.length - r.syn) }
theorem At.bumped {S : Nat → Prop} {w0 w : World} {d : Nat} {k : DS} (h : At S w0 w d k) {r : Rw} (hr : r ∈ k.rs) (keep : Int) (n : Nat) (hn : n = r.syn + min keep.toNat (r.dat.length - r.syn)) : At S w0 (w.setCell ⟨r.b, 1, none⟩ (.int .i64 (n : Int))) d { k with rs := k.rs.map (repl (bump keep r)) } := by
  subst hn
  have hF := h.dk.fs r hr
  exact h.turnF1 (r' := bump keep r) hr (Out.set rfl) (size_set _ _ _) (heap_set hF.cell 1 _) rfl rfl (fun g hg => hg) hF.own (by have := hF.syn; show r.syn + min keep.toNat (r.dat.length - r.syn) ≤ r.dat.length; omega) (Nat.le_refl _)

theorem cutV_own {v : Value} {n : Nat} {g : Nat} (h : (cutV v n).ownBlock = some g) : v.ownBlock = some g := by
  unfold cutV at h
  split at h
  · rename_i a _ c
    cases a <;> exact h
  · exact h

theorem At.cutF {S : Nat → Prop} {w0 w : World} {d : Nat} {k : DS} (h : At S w0 w d k) {f : Rw} (hf : f ∈ k.rs) : At S w0 (w.setCell ⟨f.b, 0, none⟩ (cutV f.v f.syn)) d { k with rs := k.rs.map (repl (cutR f)) } := by
  have hF := h.dk.fs f hf
  obtain ⟨a, cap, hv, -, -⟩ := hF.own.shape
  have hown := hF.own
  rw [hv] at hown
  refine h.turnF1 (r' := cutR f) hf (Out.set rfl) (size_set _ _ _) (heap_set hF.cell 0 _) rfl rfl (fun g hg => cutV_own hg) ?_ (by have := hF.syn; simp [cutR]; omega) (by simp [cutR]; omega)
  show Ow 0 w (cutV f.v f.syn) (f.dat.take f.syn)
  rw [hv]
  exact hown.cut hF.syn

/-- The end of Crash: nothing is the last one, armed or down. -/
theorem At.calm {S : Nat → Prop} {w0 w : World} {d : Nat} {k : DS} (h : At S w0 w d k) : At S w0 (((w.setCell ⟨d, 1, none⟩ (.pointer none)).setCell ⟨d, 2, none⟩ (.int .i64 0)).setCell ⟨d, 3, none⟩ (.bool false)) d { k with last := none, arm := 0, dn := false } := by
  refine h.go (((Out.set h.dk.Sd).trans (Out.set h.dk.Sd) (fun i hi _ => hi)).trans (Out.set h.dk.Sd) (fun i hi _ => hi)) ?_
  have e : ((((w.setCell ⟨d, 1, none⟩ (.pointer none)).setCell ⟨d, 2, none⟩ (.int .i64 0)).setCell ⟨d, 3, none⟩ (.bool false))).heap.size = w.heap.size := by simp [World.setCell]
  exact (h.dk.turnD (w' := (((w.setCell ⟨d, 1, none⟩ (.pointer none)).setCell ⟨d, 2, none⟩ (.int .i64 0)).setCell ⟨d, 3, none⟩ (.bool false))) (((Out.set (X := (· = d)) rfl).trans (Out.set (X := (· = d)) rfl) (fun i hi _ => hi)).trans (Out.set (X := (· = d)) rfl) (fun i hi _ => hi)) none 0 false (heap_set (heap_set (heap_set h.dk.hd 1 _) 2 _) 3 _) (by simp) (by omega) e).mono (fun i hi => grew_mono (by omega) hi) (fun i hi => by have := h.dk.inn i (grew_mono (by omega) hi); omega)

theorem crash_pd {S : Nat → Prop} {w0 w : World} {d : Nat} {k : DS} (h : At S w0 w d k) (keep : Int) {rs1 : List Rw} (h1 : (k.last = none ∧ rs1 = k.rs) ∨ ∃ r ∈ k.rs, k.last = some r.b ∧ rs1 = k.rs.map (repl (bump keep r))) : ({ k with rs := rs1.map cutR, last := none, arm := 0, dn := false } : DS).pd = doCrash k.pd keep := by
  show PD.mk ((rs1.map cutR).map (Rw.pf none)) 0 false = PD.mk ((k.rs.map (Rw.pf k.last)).map (crashP keep)) 0 false
  congr 1
  rcases h1 with ⟨hl, rfl⟩ | ⟨r, hr, hl, rfl⟩
  · rw [List.map_map, List.map_map]
    refine List.map_congr_left fun q _ => ?_
    rw [hl]
    rfl
  · rw [List.map_map, List.map_map, List.map_map]
    refine List.map_congr_left fun q hq => ?_
    show Rw.pf none (cutR (repl (bump keep r) q)) = crashP keep (Rw.pf k.last q)
    unfold repl
    have eb : (bump keep r).b = r.b := rfl
    rw [eb, hl]
    by_cases e : q.b = r.b
    · obtain rfl := apart_eq h.dk.ap hr hq e
      rw [if_pos rfl]
      simp [Rw.pf, crashP, cutR, bump]
    · rw [if_neg e]
      have e2 : (some r.b == some q.b) = false := by simp; exact fun e3 => e e3.symm
      simp [Rw.pf, crashP, cutR, e2]

set_option maxRecDepth 100000 in
set_option maxHeartbeats 8000000 in
theorem crash_none {S : Nat → Prop} {w : World} {d : Nat} {k : DS} (h : DkC S w d k) (keep : Int) (hl : k.last = none) : Calls Tryz.prog 14 #[.pointer (some ⟨d, 0, none⟩), .int .i64 keep] w fun r w' => ∃ k', r = .returned (.tuple #[]) ∧ At S w w' d k' ∧ k'.pd = doCrash k.pd keep := by
  obtain ⟨⟨c0, c1, c2, c3⟩, f1, f2, f3⟩ := h.cells
  have h0 := At.start h
  have HPD : Hid (({ k with rs := k.rs.map cutR, last := none, arm := 0, dn := false } : DS).pd = doCrash k.pd keep) := crash_pd h0 keep (.inl ⟨hl, rfl⟩)
  have HAP : Hid (k.rs.Pairwise Apart) := h.ap
  have HNM : Hid (∀ q ∈ k.rs, ∀ r ∈ k.rs, q.b ≠ r.b → q.nm ≠ r.nm) := fun q hq r hr hne => h.nm_ne hr hq hne
  have hAt := h0
  have hmm0 := hAt.dk.hm
  rw [hl] at c1
  unfold ptrV at c1
  obtain ⟨it, hit⟩ : ∃ it, w.heap.size = it := ⟨_, rfl⟩
  clear h h0
  go_enter Tryz.func14, Tryz.ntmps14
  go_wp2_with (first
    | (at_range; refine wpList_range_own _ rfl _ 98 rfl 9 99 law9 Tryz.underlying98 ptrElem k.m k.rs.length _ rfl hmm0 ?_; intro w1 hrg0 hg0 hs0)
    | go_in)
  have hA1 : At S w w1 d k := hAt.below ((Below.refl _ _).grown hg0 (Nat.le_refl _) (fun k e => by cases e))
  have HI0 : Hid (w.heap.size ≤ it) := (Nat.le_of_eq hit)
  rw [hit] at hrg0
  clear hmm0 hs0 hAt hg0
  (try go_frame)
  go_loopw [5] (fun _ wr => ∃ (left : Lit → Bool) (cnt : Nat), wr.ranges Tryz.prog 9 ptrElem k.m it k.rs.length (.map (k.rs.map Rw.ent)) left cnt ∧ At S w wr d { k with rs := k.rs.map (cutIf left) })
    (fun _ wr => wr.rangeLeft k.m it)
  case atStart =>
    refine ⟨_, _, hrg0, ?_⟩
    rw [cutIf_all (fun r hr => by rw [has_ents, hA1.dk.look hr]; rfl)]
    exact hA1
  case round =>
    obtain ⟨left, cnt, hrg, hA⟩ := hrel
    have HA : Hid (At S w wr d { k with rs := k.rs.map (cutIf left) }) := hA
    have HRG : Hid (wr.ranges Tryz.prog 9 ptrElem k.m it k.rs.length (.map (k.rs.map Rw.ent)) left cnt) := hrg
    obtain ⟨⟨b0, b1, b2, b3⟩, t1, t2, t3⟩ := hA.dk.cells
    clear hA
    go_wp2_with (first
      | (at_next; refine wpList_next_disk rfl _ rfl k.m it k.rs.length k.rs left cnt rfl hrg ?_ ?_)
      | go_in)
    · intro _ hl0
      go_wp2
      go_end0
      have hz := HA.out.calm
      rw [cutIf_none hl0] at hz
      exact ⟨_, rfl, hz, HPD.out⟩
    · intro f w2 cnt2 hf hlk hfl hleft hrg2 hlt hg2 hs2 hen
      obtain ⟨ia, ib, isn, ic, hii⟩ := ranges_iter HRG.out
      have hA2 := HA.out.iter hii hg2 HI0.out hs2
      have hfm : f ∈ k.rs.map (cutIf left) := List.mem_map.2 ⟨f, hf, by unfold cutIf; rw [if_pos hleft]⟩
      have hF := hA2.dk.fs f hfm
      have hA3 := hA2.cutF hfm
      obtain ⟨⟨g0, g1⟩, g2, g3⟩ := hF.cells
      obtain ⟨av, capv, hv, hlc, hcm⟩ := hF.own.shape
      have hsyn := hF.syn
      unfold maxLen at hcm
      have HA3 : Hid (At S w (w2.setCell ⟨f.b, 0, none⟩ (.slice av f.syn capv)) d { k with rs := k.rs.map (cutIf fun z => left z && !z.sameKey (.string f.nm)) }) := by
        show At S w _ d _
        rw [hv] at hA3
        have e := cutIf_step (left := left) HAP.out HNM.out hf
        simp only at hA3
        rw [e] at hA3
        exact hA3
      have hne1 : some k.m ≠ some f.b := fun e => by
        obtain ⟨es, clock, hbm, _⟩ := hA2.dk.hm
        exact hF.ne hbm (by simp) (by simpa using e.symm)
      have hne2 : some it ≠ some f.b := fun e => by
        obtain ⟨ia, ib, isn, ic, hii2⟩ := ranges_iter hrg2
        exact hF.ne hii2 (by simp) (by simpa using e.symm)
      have HRG3 : Hid ((w2.setCell ⟨f.b, 0, none⟩ (.slice av f.syn capv)).ranges Tryz.prog 9 ptrElem k.m it k.rs.length (.map (k.rs.map Rw.ent)) (fun z => left z && !z.sameKey (.string f.nm)) cnt2) :=
        hrg2.kept (row := some f.b) ⟨rfl, rfl, rfl, by simp [World.setCell], fun i _ hi => Below.heap_setCell _ _ _ _ (fun e => hi (by rw [e]))⟩ hne1 hne2
      have HLT : Hid (cnt2 < cnt) := hlt
      rw [hv] at g0
      clear hs2 hlk hA2 hF hA3 hv hrg2 hlt hg2 hne1 hne2 hii hfm hf hleft b0 b1 b2 b3 t1 t2 t3
      go_wp2
      go_region
      all_goals (go_wp2; go_roundw)
      case rel => exact ⟨_, cnt2, ranges_drew HRG3.out, HA3.out.drew⟩
      case measure => rw [(ranges_drew HRG3.out).left_eq, HRG.out.left_eq]; exact HLT.out

end Go.Proofs.YtnahghldlkjleaaGreatDoor
namespace Go.Proofs.YtnahghldlkjleaaGreatDoor
open Go.RowKit

set_option maxRecDepth 100000 in
set_option maxHeartbeats 8000000 in
theorem crash_a {S : Nat → Prop} {w : World} {d : Nat} {k : DS} (h : DkC S w d k) (keep : Int) {r : Rw} (hr : r ∈ k.rs) (hl : k.last = some r.b) (hk0 : 0 ≤ keep) (hki : keep ≤ (r.dat.length : Int) - (r.syn : Int)) : Calls Tryz.prog 14 #[.pointer (some ⟨d, 0, none⟩), .int .i64 keep] w fun r w' => ∃ k', r = .returned (.tuple #[]) ∧ At S w w' d k' ∧ k'.pd = doCrash k.pd keep := by
  obtain ⟨⟨c0, c1, c2, c3⟩, f1, f2, f3⟩ := h.cells
  have h0 := At.start h
  have hF := h.fs r hr
  obtain ⟨⟨g0, g1⟩, g2, g3⟩ := hF.cells
  obtain ⟨av, capv, hv, hlc, hcm⟩ := hF.own.shape
  have hsyn := hF.syn
  have hdl : r.dat.length ≤ 16777216 := by have h7 := sum_del_le hr; have := h.all; omega
  unfold maxLen at hcm
  rw [hv] at g0
  have HB : Hid (∀ n : Nat, n = r.syn + min keep.toNat (r.dat.length - r.syn) → At S w (w.setCell ⟨r.b, 1, none⟩ (.int .i64 (n : Int))).drew d { k with rs := k.rs.map (repl (bump keep r)) }) := fun n hn => (h0.bumped hr keep n hn).drew
  obtain ⟨K, hKe⟩ : ∃ K : DS, K = { k with rs := k.rs.map (repl (bump keep r)) } := ⟨_, rfl⟩
  have HPDr : Hid ((DS.mk K.m (K.rs.map cutR) none 0 false).pd = doCrash k.pd keep) := by
    show _ = _
    rw [hKe]
    exact crash_pd h0 keep (.inr ⟨r, hr, hl, rfl⟩)
  rw [hl] at c1
  unfold ptrV at c1
  clear h h0 hF hv hl
  obtain ⟨kp, hkp0⟩ : ∃ kp : Nat, keep = (kp : Int) := ⟨keep.toNat, by omega⟩
  have HKP : Hid (keep = (kp : Int)) := hkp0
  clear hkp0
  go_enter Tryz.func14, Tryz.ntmps14
  go_wp2
  go_region
  have hAt : At S w (w.setCell ⟨r.b, 1, none⟩ (.int .i64 ((r.syn : Int) + keep))).drew d { k with rs := k.rs.map (repl (bump keep r)) } := by
    have hkk := HKP.out
    have h9 := HB.out (r.syn + kp) (by omega)
    have e9 : (((r.syn + kp : Nat)) : Int) = (r.syn : Int) + keep := by omega
    rw [e9] at h9
    exact h9
  generalize (w.setCell ⟨r.b, 1, none⟩ (.int .i64 ((r.syn : Int) + keep))).drew = W1 at hAt ⊢
  have HPD : Hid ((DS.mk K.m (K.rs.map cutR) none 0 false).pd = doCrash k.pd keep) := HPDr.out
  rw [← hKe] at hAt
  have HAP : Hid (K.rs.Pairwise Apart) := hAt.dk.ap
  have HNM : Hid (∀ q ∈ K.rs, ∀ r ∈ K.rs, q.b ≠ r.b → q.nm ≠ r.nm) := fun q hq r hr hne => hAt.dk.nm_ne hr hq hne
  have hmm0 := hAt.dk.hm
  obtain ⟨⟨e0, -⟩, -⟩ := hAt.dk.cells
  clear hKe
  go_wp2_with (first
    | (at_range; refine wpList_range_own _ rfl _ 98 rfl 9 99 law9 Tryz.underlying98 ptrElem K.m K.rs.length _ rfl hmm0 ?_; intro w1 hrg0 hg0 hs0)
    | go_in)
  have hA1 : At S w w1 d K := hAt.below ((Below.refl _ W1).grown hg0 (Nat.le_refl _) (fun k e => by cases e))
  have HI0 : Hid (w.heap.size ≤ W1.heap.size) := hAt.out.size
  clear hmm0 hs0 hAt hg0
  (try go_frame)
  go_loopw [5] (fun _ wr => ∃ (left : Lit → Bool) (cnt : Nat), wr.ranges Tryz.prog 9 ptrElem K.m W1.heap.size K.rs.length (.map (K.rs.map Rw.ent)) left cnt ∧ At S w wr d { K with rs := K.rs.map (cutIf left) })
    (fun _ wr => wr.rangeLeft K.m W1.heap.size)
  case atStart =>
    refine ⟨_, _, hrg0, ?_⟩
    rw [cutIf_all (fun r hr => by rw [has_ents, hA1.dk.look hr]; rfl)]
    exact hA1
  case round =>
    obtain ⟨left, cnt, hrg, hA⟩ := hrel
    have HA : Hid (At S w wr d { K with rs := K.rs.map (cutIf left) }) := hA
    have HRG : Hid (wr.ranges Tryz.prog 9 ptrElem K.m W1.heap.size K.rs.length (.map (K.rs.map Rw.ent)) left cnt) := hrg
    obtain ⟨⟨b0, b1, b2, b3⟩, t1, t2, t3⟩ := hA.dk.cells
    clear hA
    go_wp2_with (first
      | (at_next; refine wpList_next_disk rfl _ rfl K.m W1.heap.size K.rs.length K.rs left cnt rfl hrg ?_ ?_)
      | go_in)
    · intro _ hl0
      go_wp2
      go_end0
      have hz := HA.out.calm
      rw [cutIf_none hl0] at hz
      exact ⟨_, rfl, hz, HPD.out⟩
    · intro f w2 cnt2 hf hlk hfl hleft hrg2 hlt hg2 hs2 hen
      obtain ⟨ia, ib, isn, ic, hii⟩ := ranges_iter HRG.out
      have hA2 := HA.out.iter hii hg2 HI0.out hs2
      have hfm : f ∈ K.rs.map (cutIf left) := List.mem_map.2 ⟨f, hf, by unfold cutIf; rw [if_pos hleft]⟩
      have hF := hA2.dk.fs f hfm
      have hA3 := hA2.cutF hfm
      obtain ⟨⟨g0, g1⟩, g2, g3⟩ := hF.cells
      obtain ⟨av, capv, hv, hlc, hcm⟩ := hF.own.shape
      have hsyn := hF.syn
      unfold maxLen at hcm
      have HA3 : Hid (At S w (w2.setCell ⟨f.b, 0, none⟩ (.slice av f.syn capv)) d { K with rs := K.rs.map (cutIf fun z => left z && !z.sameKey (.string f.nm)) }) := by
        show At S w _ d _
        rw [hv] at hA3
        have e := cutIf_step (left := left) HAP.out HNM.out hf
        simp only at hA3
        rw [e] at hA3
        exact hA3
      have hne1 : some K.m ≠ some f.b := fun e => by
        obtain ⟨es, clock, hbm, _⟩ := hA2.dk.hm
        exact hF.ne hbm (by simp) (by simpa using e.symm)
      have hne2 : some W1.heap.size ≠ some f.b := fun e => by
        obtain ⟨ia, ib, isn, ic, hii2⟩ := ranges_iter hrg2
        exact hF.ne hii2 (by simp) (by simpa using e.symm)
      have HRG3 : Hid ((w2.setCell ⟨f.b, 0, none⟩ (.slice av f.syn capv)).ranges Tryz.prog 9 ptrElem K.m W1.heap.size K.rs.length (.map (K.rs.map Rw.ent)) (fun z => left z && !z.sameKey (.string f.nm)) cnt2) :=
        hrg2.kept (row := some f.b) ⟨rfl, rfl, rfl, by simp [World.setCell], fun i _ hi => Below.heap_setCell _ _ _ _ (fun e => hi (by rw [e]))⟩ hne1 hne2
      have HLT : Hid (cnt2 < cnt) := hlt
      rw [hv] at g0
      clear hs2 hlk hA2 hF hA3 hv hrg2 hlt hg2 hne1 hne2 hii hfm hf hleft b0 b1 b2 b3 t1 t2 t3
      go_wp2
      go_region
      all_goals (go_wp2; go_roundw)
      case rel => exact ⟨_, cnt2, ranges_drew HRG3.out, HA3.out.drew⟩
      case measure => rw [(ranges_drew HRG3.out).left_eq, HRG.out.left_eq]; exact HLT.out

end Go.Proofs.YtnahghldlkjleaaGreatDoor
namespace Go.Proofs.YtnahghldlkjleaaGreatDoor
open Go.RowKit

set_option maxRecDepth 100000 in
set_option maxHeartbeats 8000000 in
theorem crash_b {S : Nat → Prop} {w : World} {d : Nat} {k : DS} (h : DkC S w d k) (keep : Int) {r : Rw} (hr : r ∈ k.rs) (hl : k.last = some r.b) (hk0 : 0 ≤ keep) (hki : (r.dat.length : Int) - (r.syn : Int) < keep) : Calls Tryz.prog 14 #[.pointer (some ⟨d, 0, none⟩), .int .i64 keep] w fun r w' => ∃ k', r = .returned (.tuple #[]) ∧ At S w w' d k' ∧ k'.pd = doCrash k.pd keep := by
  obtain ⟨⟨c0, c1, c2, c3⟩, f1, f2, f3⟩ := h.cells
  have h0 := At.start h
  have hF := h.fs r hr
  obtain ⟨⟨g0, g1⟩, g2, g3⟩ := hF.cells
  obtain ⟨av, capv, hv, hlc, hcm⟩ := hF.own.shape
  have hsyn := hF.syn
  have hdl : r.dat.length ≤ 16777216 := by have h7 := sum_del_le hr; have := h.all; omega
  unfold maxLen at hcm
  rw [hv] at g0
  have HB : Hid (∀ n : Nat, n = r.syn + min keep.toNat (r.dat.length - r.syn) → At S w (w.setCell ⟨r.b, 1, none⟩ (.int .i64 (n : Int))).drew d { k with rs := k.rs.map (repl (bump keep r)) }) := fun n hn => (h0.bumped hr keep n hn).drew
  obtain ⟨K, hKe⟩ : ∃ K : DS, K = { k with rs := k.rs.map (repl (bump keep r)) } := ⟨_, rfl⟩
  have HPDr : Hid ((DS.mk K.m (K.rs.map cutR) none 0 false).pd = doCrash k.pd keep) := by
    show _ = _
    rw [hKe]
    exact crash_pd h0 keep (.inr ⟨r, hr, hl, rfl⟩)
  rw [hl] at c1
  unfold ptrV at c1
  clear h h0 hF hv hl
  obtain ⟨kp, hkp0⟩ : ∃ kp : Nat, keep = (kp : Int) := ⟨keep.toNat, by omega⟩
  have HKP : Hid (keep = (kp : Int)) := hkp0
  clear hkp0
  go_enter Tryz.func14, Tryz.ntmps14
  go_wp2
  go_region
  have hAt : At S w (w.setCell ⟨r.b, 1, none⟩ (.int .i64 ((r.syn : Int) + ((r.dat.length : Int) - (r.syn : Int))))).drew d { k with rs := k.rs.map (repl (bump keep r)) } := by
    have hkk := HKP.out
    have h9 := HB.out (r.dat.length) (by omega)
    have e9 : (((r.dat.length : Nat)) : Int) = (r.syn : Int) + ((r.dat.length : Int) - (r.syn : Int)) := by omega
    rw [e9] at h9
    exact h9
  generalize (w.setCell ⟨r.b, 1, none⟩ (.int .i64 ((r.syn : Int) + ((r.dat.length : Int) - (r.syn : Int))))).drew = W1 at hAt ⊢
  have HPD : Hid ((DS.mk K.m (K.rs.map cutR) none 0 false).pd = doCrash k.pd keep) := HPDr.out
  rw [← hKe] at hAt
  have HAP : Hid (K.rs.Pairwise Apart) := hAt.dk.ap
  have HNM : Hid (∀ q ∈ K.rs, ∀ r ∈ K.rs, q.b ≠ r.b → q.nm ≠ r.nm) := fun q hq r hr hne => hAt.dk.nm_ne hr hq hne
  have hmm0 := hAt.dk.hm
  obtain ⟨⟨e0, -⟩, -⟩ := hAt.dk.cells
  clear hKe
  go_wp2_with (first
    | (at_range; refine wpList_range_own _ rfl _ 98 rfl 9 99 law9 Tryz.underlying98 ptrElem K.m K.rs.length _ rfl hmm0 ?_; intro w1 hrg0 hg0 hs0)
    | go_in)
  have hA1 : At S w w1 d K := hAt.below ((Below.refl _ W1).grown hg0 (Nat.le_refl _) (fun k e => by cases e))
  have HI0 : Hid (w.heap.size ≤ W1.heap.size) := hAt.out.size
  clear hmm0 hs0 hAt hg0
  (try go_frame)
  go_loopw [5] (fun _ wr => ∃ (left : Lit → Bool) (cnt : Nat), wr.ranges Tryz.prog 9 ptrElem K.m W1.heap.size K.rs.length (.map (K.rs.map Rw.ent)) left cnt ∧ At S w wr d { K with rs := K.rs.map (cutIf left) })
    (fun _ wr => wr.rangeLeft K.m W1.heap.size)
  case atStart =>
    refine ⟨_, _, hrg0, ?_⟩
    rw [cutIf_all (fun r hr => by rw [has_ents, hA1.dk.look hr]; rfl)]
    exact hA1
  case round =>
    obtain ⟨left, cnt, hrg, hA⟩ := hrel
    have HA : Hid (At S w wr d { K with rs := K.rs.map (cutIf left) }) := hA
    have HRG : Hid (wr.ranges Tryz.prog 9 ptrElem K.m W1.heap.size K.rs.length (.map (K.rs.map Rw.ent)) left cnt) := hrg
    obtain ⟨⟨b0, b1, b2, b3⟩, t1, t2, t3⟩ := hA.dk.cells
    clear hA
    go_wp2_with (first
      | (at_next; refine wpList_next_disk rfl _ rfl K.m W1.heap.size K.rs.length K.rs left cnt rfl hrg ?_ ?_)
      | go_in)
    · intro _ hl0
      go_wp2
      go_end0
      have hz := HA.out.calm
      rw [cutIf_none hl0] at hz
      exact ⟨_, rfl, hz, HPD.out⟩
    · intro f w2 cnt2 hf hlk hfl hleft hrg2 hlt hg2 hs2 hen
      obtain ⟨ia, ib, isn, ic, hii⟩ := ranges_iter HRG.out
      have hA2 := HA.out.iter hii hg2 HI0.out hs2
      have hfm : f ∈ K.rs.map (cutIf left) := List.mem_map.2 ⟨f, hf, by unfold cutIf; rw [if_pos hleft]⟩
      have hF := hA2.dk.fs f hfm
      have hA3 := hA2.cutF hfm
      obtain ⟨⟨g0, g1⟩, g2, g3⟩ := hF.cells
      obtain ⟨av, capv, hv, hlc, hcm⟩ := hF.own.shape
      have hsyn := hF.syn
      unfold maxLen at hcm
      have HA3 : Hid (At S w (w2.setCell ⟨f.b, 0, none⟩ (.slice av f.syn capv)) d { K with rs := K.rs.map (cutIf fun z => left z && !z.sameKey (.string f.nm)) }) := by
        show At S w _ d _
        rw [hv] at hA3
        have e := cutIf_step (left := left) HAP.out HNM.out hf
        simp only at hA3
        rw [e] at hA3
        exact hA3
      have hne1 : some K.m ≠ some f.b := fun e => by
        obtain ⟨es, clock, hbm, _⟩ := hA2.dk.hm
        exact hF.ne hbm (by simp) (by simpa using e.symm)
      have hne2 : some W1.heap.size ≠ some f.b := fun e => by
        obtain ⟨ia, ib, isn, ic, hii2⟩ := ranges_iter hrg2
        exact hF.ne hii2 (by simp) (by simpa using e.symm)
      have HRG3 : Hid ((w2.setCell ⟨f.b, 0, none⟩ (.slice av f.syn capv)).ranges Tryz.prog 9 ptrElem K.m W1.heap.size K.rs.length (.map (K.rs.map Rw.ent)) (fun z => left z && !z.sameKey (.string f.nm)) cnt2) :=
        hrg2.kept (row := some f.b) ⟨rfl, rfl, rfl, by simp [World.setCell], fun i _ hi => Below.heap_setCell _ _ _ _ (fun e => hi (by rw [e]))⟩ hne1 hne2
      have HLT : Hid (cnt2 < cnt) := hlt
      rw [hv] at g0
      clear hs2 hlk hA2 hF hA3 hv hrg2 hlt hg2 hne1 hne2 hii hfm hf hleft b0 b1 b2 b3 t1 t2 t3
      go_wp2
      go_region
      all_goals (go_wp2; go_roundw)
      case rel => exact ⟨_, cnt2, ranges_drew HRG3.out, HA3.out.drew⟩
      case measure => rw [(ranges_drew HRG3.out).left_eq, HRG.out.left_eq]; exact HLT.out

end Go.Proofs.YtnahghldlkjleaaGreatDoor
namespace Go.Proofs.YtnahghldlkjleaaGreatDoor
open Go.RowKit

set_option maxRecDepth 100000 in
set_option maxHeartbeats 8000000 in
theorem crash_c {S : Nat → Prop} {w : World} {d : Nat} {k : DS} (h : DkC S w d k) (keep : Int) {r : Rw} (hr : r ∈ k.rs) (hl : k.last = some r.b) (hk0 : ¬ 0 ≤ keep) : Calls Tryz.prog 14 #[.pointer (some ⟨d, 0, none⟩), .int .i64 keep] w fun r w' => ∃ k', r = .returned (.tuple #[]) ∧ At S w w' d k' ∧ k'.pd = doCrash k.pd keep := by
  obtain ⟨⟨c0, c1, c2, c3⟩, f1, f2, f3⟩ := h.cells
  have h0 := At.start h
  have hF := h.fs r hr
  obtain ⟨⟨g0, g1⟩, g2, g3⟩ := hF.cells
  obtain ⟨av, capv, hv, hlc, hcm⟩ := hF.own.shape
  have hsyn := hF.syn
  have hdl : r.dat.length ≤ 16777216 := by have h7 := sum_del_le hr; have := h.all; omega
  unfold maxLen at hcm
  rw [hv] at g0
  have HB : Hid (∀ n : Nat, n = r.syn + min keep.toNat (r.dat.length - r.syn) → At S w (w.setCell ⟨r.b, 1, none⟩ (.int .i64 (n : Int))).drew d { k with rs := k.rs.map (repl (bump keep r)) }) := fun n hn => (h0.bumped hr keep n hn).drew
  obtain ⟨K, hKe⟩ : ∃ K : DS, K = { k with rs := k.rs.map (repl (bump keep r)) } := ⟨_, rfl⟩
  have HPDr : Hid ((DS.mk K.m (K.rs.map cutR) none 0 false).pd = doCrash k.pd keep) := by
    show _ = _
    rw [hKe]
    exact crash_pd h0 keep (.inr ⟨r, hr, hl, rfl⟩)
  rw [hl] at c1
  unfold ptrV at c1
  clear h h0 hF hv hl
  have hki : (0 : Int) ≤ (r.dat.length : Int) - (r.syn : Int) := by omega
  have HKP : Hid (keep < 0) := by show keep < 0; omega
  go_enter Tryz.func14, Tryz.ntmps14
  go_wp2
  go_region
  have hAt : At S w (w.setCell ⟨r.b, 1, none⟩ (.int .i64 ((r.syn : Int)))).drew d { k with rs := k.rs.map (repl (bump keep r)) } := by
    have hkk := HKP.out
    have h9 := HB.out (r.syn) (by omega)
    have e9 : (((r.syn : Nat)) : Int) = (r.syn : Int) := by omega
    rw [e9] at h9
    exact h9
  generalize (w.setCell ⟨r.b, 1, none⟩ (.int .i64 ((r.syn : Int)))).drew = W1 at hAt ⊢
  have HPD : Hid ((DS.mk K.m (K.rs.map cutR) none 0 false).pd = doCrash k.pd keep) := HPDr.out
  rw [← hKe] at hAt
  have HAP : Hid (K.rs.Pairwise Apart) := hAt.dk.ap
  have HNM : Hid (∀ q ∈ K.rs, ∀ r ∈ K.rs, q.b ≠ r.b → q.nm ≠ r.nm) := fun q hq r hr hne => hAt.dk.nm_ne hr hq hne
  have hmm0 := hAt.dk.hm
  obtain ⟨⟨e0, -⟩, -⟩ := hAt.dk.cells
  clear hKe
  go_wp2_with (first
    | (at_range; refine wpList_range_own _ rfl _ 98 rfl 9 99 law9 Tryz.underlying98 ptrElem K.m K.rs.length _ rfl hmm0 ?_; intro w1 hrg0 hg0 hs0)
    | go_in)
  have hA1 : At S w w1 d K := hAt.below ((Below.refl _ W1).grown hg0 (Nat.le_refl _) (fun k e => by cases e))
  have HI0 : Hid (w.heap.size ≤ W1.heap.size) := hAt.out.size
  clear hmm0 hs0 hAt hg0
  (try go_frame)
  go_loopw [5] (fun _ wr => ∃ (left : Lit → Bool) (cnt : Nat), wr.ranges Tryz.prog 9 ptrElem K.m W1.heap.size K.rs.length (.map (K.rs.map Rw.ent)) left cnt ∧ At S w wr d { K with rs := K.rs.map (cutIf left) })
    (fun _ wr => wr.rangeLeft K.m W1.heap.size)
  case atStart =>
    refine ⟨_, _, hrg0, ?_⟩
    rw [cutIf_all (fun r hr => by rw [has_ents, hA1.dk.look hr]; rfl)]
    exact hA1
  case round =>
    obtain ⟨left, cnt, hrg, hA⟩ := hrel
    have HA : Hid (At S w wr d { K with rs := K.rs.map (cutIf left) }) := hA
    have HRG : Hid (wr.ranges Tryz.prog 9 ptrElem K.m W1.heap.size K.rs.length (.map (K.rs.map Rw.ent)) left cnt) := hrg
    obtain ⟨⟨b0, b1, b2, b3⟩, t1, t2, t3⟩ := hA.dk.cells
    clear hA
    go_wp2_with (first
      | (at_next; refine wpList_next_disk rfl _ rfl K.m W1.heap.size K.rs.length K.rs left cnt rfl hrg ?_ ?_)
      | go_in)
    · intro _ hl0
      go_wp2
      go_end0
      have hz := HA.out.calm
      rw [cutIf_none hl0] at hz
      exact ⟨_, rfl, hz, HPD.out⟩
    · intro f w2 cnt2 hf hlk hfl hleft hrg2 hlt hg2 hs2 hen
      obtain ⟨ia, ib, isn, ic, hii⟩ := ranges_iter HRG.out
      have hA2 := HA.out.iter hii hg2 HI0.out hs2
      have hfm : f ∈ K.rs.map (cutIf left) := List.mem_map.2 ⟨f, hf, by unfold cutIf; rw [if_pos hleft]⟩
      have hF := hA2.dk.fs f hfm
      have hA3 := hA2.cutF hfm
      obtain ⟨⟨g0, g1⟩, g2, g3⟩ := hF.cells
      obtain ⟨av, capv, hv, hlc, hcm⟩ := hF.own.shape
      have hsyn := hF.syn
      unfold maxLen at hcm
      have HA3 : Hid (At S w (w2.setCell ⟨f.b, 0, none⟩ (.slice av f.syn capv)) d { K with rs := K.rs.map (cutIf fun z => left z && !z.sameKey (.string f.nm)) }) := by
        show At S w _ d _
        rw [hv] at hA3
        have e := cutIf_step (left := left) HAP.out HNM.out hf
        simp only at hA3
        rw [e] at hA3
        exact hA3
      have hne1 : some K.m ≠ some f.b := fun e => by
        obtain ⟨es, clock, hbm, _⟩ := hA2.dk.hm
        exact hF.ne hbm (by simp) (by simpa using e.symm)
      have hne2 : some W1.heap.size ≠ some f.b := fun e => by
        obtain ⟨ia, ib, isn, ic, hii2⟩ := ranges_iter hrg2
        exact hF.ne hii2 (by simp) (by simpa using e.symm)
      have HRG3 : Hid ((w2.setCell ⟨f.b, 0, none⟩ (.slice av f.syn capv)).ranges Tryz.prog 9 ptrElem K.m W1.heap.size K.rs.length (.map (K.rs.map Rw.ent)) (fun z => left z && !z.sameKey (.string f.nm)) cnt2) :=
        hrg2.kept (row := some f.b) ⟨rfl, rfl, rfl, by simp [World.setCell], fun i _ hi => Below.heap_setCell _ _ _ _ (fun e => hi (by rw [e]))⟩ hne1 hne2
      have HLT : Hid (cnt2 < cnt) := hlt
      rw [hv] at g0
      clear hs2 hlk hA2 hF hA3 hv hrg2 hlt hg2 hne1 hne2 hii hfm hf hleft b0 b1 b2 b3 t1 t2 t3
      go_wp2
      go_region
      all_goals (go_wp2; go_roundw)
      case rel => exact ⟨_, cnt2, ranges_drew HRG3.out, HA3.out.drew⟩
      case measure => rw [(ranges_drew HRG3.out).left_eq, HRG.out.left_eq]; exact HLT.out

end Go.Proofs.YtnahghldlkjleaaGreatDoor
namespace Go.Proofs.YtnahghldlkjleaaGreatDoor
open Go.RowKit

theorem crash_any {S : Nat → Prop} {w : World} {d : Nat} {k : DS} (h : DkC S w d k) (keep : Int) : Calls Tryz.prog 14 #[.pointer (some ⟨d, 0, none⟩), .int .i64 keep] w fun r w' => ∃ k', r = .returned (.tuple #[]) ∧ At S w w' d k' ∧ k'.pd = doCrash k.pd keep := by
  cases hl : k.last with
  | none => exact crash_none h keep hl
  | some b =>
    obtain ⟨r, hr, rfl⟩ := h.la b hl
    by_cases hk0 : 0 ≤ keep
    · by_cases hki : keep ≤ (r.dat.length : Int) - (r.syn : Int)
      · exact crash_a h keep hr hl hk0 hki
      · exact crash_b h keep hr hl hk0 (by omega)
    · exact crash_c h keep hr hl hk0

end Go.Proofs.YtnahghldlkjleaaGreatDoor
