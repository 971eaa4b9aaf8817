/-
  Size, drop, Sync, Remove, Create: what each does to a disk. Create, Cut, Rename, Append: what each does to a disk. Append: what it does to a disk.
-/
import Derived.Test.YtnahghldlkjleaaGreatDoorJDa
import Derived.LaidEqlPtr
import Derived.Deep.RegionLaw
namespace Go.Proofs.YtnahghldlkjleaaGreatDoor
open Go.RowKit

/-- An operation has answered, and left a disk. -/
def Done (S : Nat → Prop) (w : World) (d : Nat) (x : Nat × PD) (r : Ending) (w' : World) : Prop := ∃ k', r = .returned (.int .i64 (x.1 : Int)) ∧ At S w w' d k' ∧ k'.pd = x.2

theorem Done.mk {S : Nat → Prop} {w w' : World} {d : Nat} {x : Nat × PD} {r : Ending} {k' : DS} {e : Nat} {p : PD} (he : x = (e, p)) (hr : r = .returned (.int .i64 (e : Int))) (h : At S w w' d k') (hp : k'.pd = p) : Done S w d x r w' := by
  subst he
  exact ⟨k', hr, h, hp⟩

/-- The bytes of the files that are still to come. -/
def sumL (left : Lit → Bool) (rs : List Rw) : Nat := sumLen (rs.filter fun r => left (.string r.nm))
theorem sumL_all {left : Lit → Bool} {rs : List Rw} (h : ∀ r ∈ rs, left (.string r.nm) = true) : sumL left rs = sumLen rs := by
  unfold sumL
  rw [List.filter_eq_self.2 h]
theorem sumL_none {left : Lit → Bool} {rs : List Rw} (h : ∀ kl, left kl = false) : sumL left rs = 0 := by
  unfold sumL
  have : rs.filter (fun r => left (.string r.nm)) = [] := List.filter_eq_nil_iff.2 (fun r _ => by simp [h])
  rw [this]; rfl
theorem sumL_step {left : Lit → Bool} : ∀ {rs : List Rw}, rs.Pairwise (fun r q => r.nm ≠ q.nm) → ∀ {f : Rw}, f ∈ rs → left (.string f.nm) = true → sumL left rs = f.dat.length + sumL (fun z => left z && !z.sameKey (.string f.nm)) rs
  | [], _, _, hf, _ => by simp at hf
  | q :: t, hp, f, hf, hl => by
    obtain ⟨h1, h2⟩ := List.pairwise_cons.1 hp
    rcases List.mem_cons.1 hf with e | hf'
    · subst e
      have e1 : t.filter (fun r => left (.string r.nm) && !(Lit.string r.nm).sameKey (.string f.nm)) = t.filter (fun r => left (.string r.nm)) := List.filter_congr (fun x hx => by
        have : x.nm ≠ f.nm := fun e => h1 x hx e.symm
        simp [Lit.sameKey, this])
      simp only [sumL, List.filter_cons, hl, if_true, e1]
      simp [Lit.sameKey, sumLen]
    · have ih := sumL_step h2 hf' hl
      have hne : q.nm ≠ f.nm := fun e => h1 f hf' e
      simp only [sumL, List.filter_cons] at *
      cases hq : left (.string q.nm)
      · simpa [hq] using ih
      · simp [Lit.sameKey, hne, sumLen] at *
        omega

set_option maxRecDepth 100000 in
set_option maxHeartbeats 2000000 in
theorem size_any {S : Nat → Prop} {w : World} {d : Nat} {k : DS} (h : DkC S w d k) : Calls Tryz.prog 61 #[.pointer (some ⟨d, 0, none⟩)] w fun r w' => r = .returned (.int .i64 (sumLen k.rs : Int)) ∧ Below w.heap.size w w' := by
  obtain ⟨⟨c0, -⟩, -⟩ := h.cells
  have hm := h.hm
  have hmS := h.inn _ h.Sm
  have hall := h.all
  have HP : Hid (k.rs.Pairwise (fun r q => r.nm ≠ q.nm)) := h.rise.imp (fun hab => before_ne hab)
  have HF : Hid (∀ r ∈ k.rs, FileAt w r ∧ r.b < w.heap.size) := fun r hr => ⟨h.fs r hr, h.inn _ (h.Sf r hr).1⟩
  go_enter Tryz.func61, Tryz.ntmps61
  go_wp2_with (first
    | (at_range; refine wpList_range_own _ rfl _ 98 rfl 9 99 law9 Tryz.underlying98 ptrElem k.m k.rs.length _ rfl hm ?_; intro w1 hrg0 hg0 hs0)
    | go_in)
  go_frame
  go_loopw [3] (fun sv wr => ∃ (left : Lit → Bool) (cnt acc : Nat), wr.ranges Tryz.prog 9 ptrElem k.m w.heap.size k.rs.length (.map (k.rs.map Rw.ent)) left cnt ∧ w.grownBy wr none ∧ sv = .int .i64 (acc : Int) ∧ acc + sumL left k.rs = sumLen k.rs)
    (fun _ wr => wr.rangeLeft k.m w.heap.size)
  case atStart => exact ⟨_, _, 0, hrg0, hg0, rfl, by rw [Nat.zero_add]; exact sumL_all (fun r hr => by rw [has_ents, h.look hr]; rfl)⟩
  case round =>
    obtain ⟨left, cnt, acc, hrg, hgw, rfl, hsum⟩ := hrel
    have HS : Hid (acc + sumL left k.rs = sumLen k.rs) := hsum
    have hacc : acc ≤ 16777216 := by omega
    clear hsum
    go_wp2_with (first
      | (at_next; refine wpList_next_disk rfl _ rfl k.m w.heap.size k.rs.length k.rs left cnt rfl hrg ?_ ?_)
      | go_in)
    · intro _ hl0
      go_wp2
      go_ret
      refine ⟨?_, (Below.refl _ w).grown hgw (Nat.le_refl _) (fun k e => by cases e)⟩
      have := HS.out
      rw [sumL_none hl0] at this
      rw [← this]; rfl
    · intro f w2 cnt2 hf hlk hfl hleft hrg2 hlt hg2 hs2 hen
      have hgw2 := hgw.andThen hg2 (fun j hj => by cases hj; exact Or.inl (Nat.le_refl _))
      obtain ⟨hfa, hfb⟩ := HF.out f hf
      have hc : w2.cell? ⟨f.b, 0, none⟩ = some f.v := hgw2.cell hfa.cells.1.1 (by simp)
      have HS2 : Hid (acc + f.dat.length + sumL (fun z => left z && !z.sameKey (.string f.nm)) k.rs = sumLen k.rs) := by
        have := HS.out
        rw [sumL_step HP.out hf hleft] at this
        show acc + f.dat.length + _ = _
        omega
      have hacc2 : acc + f.dat.length ≤ 16777216 := by have := HS2.out; omega
      obtain ⟨av, capv, hv, -, -⟩ := hfa.own.shape
      rw [hv] at hc
      clear hs2 hfa hv hlk
      go_wp2
      go_roundw
      case rel => exact ⟨_, cnt2, acc + f.dat.length, hrg2, hgw2, by simp, HS2.out⟩
      case measure => rw [hrg2.left_eq, hrg.left_eq]; exact hlt

/-- A file is gone; if it was the one appended to last there is none. -/
def DS.drop (k : DS) (nm : List UInt8) : DS := { k with last := (match look nm k.rs with | some r => if k.last = some r.b then none else k.last | none => k.last), rs := delR nm k.rs }
theorem info79 : (Tryz.prog.info? 105).map (fun i => (i.zero, i.size, i.bytes)) = some (some (.agg #[.slice none 0 0, .int .i64 0]), 2, 32) := by kernel_rfl
theorem ptr_same (w : World) (b : Nat) : (binOp .eql 99 (.pointer (some ⟨b, 0, none⟩)) (.pointer (some ⟨b, 0, none⟩))).run Tryz.prog w = .ok (.bool true) w := by
  obtain ⟨i0, hi, hz0, hz1, hz2⟩ := info_parts info79
  exact run_eql_ptr_same w _ Tryz.underlying99 hi
theorem ptr_other {w : World} {r q : Rw} (hr : FileAt w r) (hq : FileAt w q) (hne : r.b ≠ q.b) : (binOp .eql 99 (.pointer (some ⟨r.b, 0, none⟩)) (.pointer (some ⟨q.b, 0, none⟩))).run Tryz.prog w = .ok (.bool false) w := by
  obtain ⟨i0, hi, hz0, hz1, hz2⟩ := info_parts info79
  exact run_eql_ptr_other w Tryz.underlying99 hi (by rw [hz1]; decide) (fun e => hne (congrArg Addr.block e)) hr.cell hq.cell
theorem look_none {nm : List UInt8} {rs : List Rw} (h : look nm rs = none) {r : Rw} (hr : r ∈ rs) : r.nm ≠ nm := by
  have := List.find?_eq_none.1 h r hr
  simpa using this
theorem DkC.gone {S : Nat → Prop} {w : World} {d : Nat} {k : DS} (h : DkC S w d k) {nm : List UInt8} {r q : Rw} (hf : YtnahghldlkjleaaGreatDoor.look nm k.rs = some r) (hq : q ∈ delR nm k.rs) : q.b ≠ r.b := fun e => by
  obtain ⟨hr, hn⟩ := look_some hf
  obtain ⟨hq1, hq2⟩ := mem_delR.1 hq
  have := apart_eq h.ap hr hq1 e
  exact hq2 (by rw [this, hn])
theorem DkC.drop_pd {S : Nat → Prop} {w : World} {d : Nat} {k : DS} (h : DkC S w d k) (nm : List UInt8) : (k.drop nm).pd = { k.pd with fs := delP nm k.pd.fs } := by
  have key : (delR nm k.rs).map (Rw.pf (k.drop nm).last) = (delR nm k.rs).map (Rw.pf k.last) := by
    refine List.map_congr_left fun q hq => ?_
    unfold DS.drop
    cases hf : YtnahghldlkjleaaGreatDoor.look nm k.rs with
    | none => rfl
    | some r =>
      simp only
      by_cases hl : k.last = some r.b
      · have hne := h.gone hf hq
        rw [if_pos hl, hl]
        unfold Rw.pf
        have e1 : (some r.b == some q.b) = false := by simp; exact fun e => hne e.symm
        rw [e1]; rfl
      · rw [if_neg hl]
  show PD.mk ((delR nm k.rs).map (Rw.pf (k.drop nm).last)) k.arm k.dn = PD.mk (delP nm (k.rs.map (Rw.pf k.last))) k.arm k.dn
  rw [key, del_pf]

theorem At.delM {S : Nat → Prop} {w0 w w' : World} {d n : Nat} {k : DS} {nm : List UInt8} (h : At S w0 w d k) (hm : w'.ownsMap Tryz.prog 9 ptrElem k.m n (.map ((delR nm k.rs).map Rw.ent))) (ht : w.mapTurned w' k.m) (hla : ∀ b, k.last = some b → ∃ r ∈ delR nm k.rs, r.b = b) :
    At S w0 w' d { k with rs := delR nm k.rs } := by
  have hsz := turned_size ht
  refine h.go ((turned_out ht).mono (fun i hi => by rw [hi]; exact h.dk.Sm)) ?_
  exact (h.dk.turnM (turned_out ht) hsz (delR nm k.rs) hm (fun r hr => ⟨h.dk.fs r (mem_delR.1 hr).1, h.dk.Sf r (mem_delR.1 hr).1⟩) (apart_delR h.dk.ap) hla (Nat.le_trans (len_delR _ _) h.dk.few) (Nat.le_trans (sum_delR _ _) h.dk.all)).mono (fun i hi => grew_mono (by omega) hi) (fun i hi => by have := h.dk.inn i (grew_mono (by omega) hi); omega)
theorem At.setD1 {S : Nat → Prop} {w0 w : World} {d : Nat} {k : DS} (h : At S w0 w d k) (last : Option Nat) (hla : ∀ b, last = some b → ∃ r ∈ k.rs, r.b = b) : At S w0 (w.setCell ⟨d, 1, none⟩ (ptrV last)) d { k with last := last } := by
  refine h.go (Out.set h.dk.Sd) ?_
  exact (h.dk.turnD (Out.set (X := (· = d)) rfl) last k.arm k.dn (heap_set h.dk.hd 1 _) hla h.dk.arm (by simp [World.setCell])).mono (fun i hi => grew_mono (by simp [World.setCell]) hi) (fun i hi => by have := h.dk.inn i (grew_mono (by simp [World.setCell]) hi); simpa [World.setCell] using this)

set_option maxRecDepth 100000 in
set_option maxHeartbeats 2000000 in
theorem drop_any {S : Nat → Prop} {w0 w : World} {d : Nat} {k : DS} (h : At S w0 w d k) (nm : List UInt8) (hn : nm.length ≤ maxLen) : Calls Tryz.prog 140 #[.pointer (some ⟨d, 0, none⟩), .string ⟨nm.toArray⟩] w fun r w' => r = .returned (.tuple #[]) ∧ At S w0 w' d (k.drop nm) ∧ w'.heap.size = w.heap.size := by
  obtain ⟨⟨c0, c1, c2, c3⟩, f1, f2, f3⟩ := h.dk.cells
  have hm := h.dk.hm
  cases hf : look nm k.rs with
  | none =>
    have e : k.drop nm = { k with rs := delR nm k.rs } := by unfold DS.drop; rw [hf]
    rw [e]
    have HA : Hid (∀ w', w'.ownsMap Tryz.prog 9 ptrElem k.m k.rs.length (.map ((delR nm k.rs).map Rw.ent)) → w.mapTurned w' k.m → At S w0 w' d { k with rs := delR nm k.rs }) := fun w' h1 h2 => h.delM h1 h2 (fun b hb => by
      obtain ⟨r, hr, hrb⟩ := h.dk.la b hb
      exact ⟨r, mem_delR.2 ⟨hr, look_none hf hr⟩, hrb⟩)
    clear e h
    go_enter Tryz.func140, Tryz.ntmps140
    go_wp2_with (first
      | (at_lookup; refine wpList_look_none rfl _ _ rfl _ _ _ rfl hm nm rfl hn hf ?_)
      | (at_delete; refine wpList_mapDel rfl _ _ rfl _ _ _ rfl hm nm rfl hn ?_; intro w1 h1 h2)
      | go_in)
    go_end0
    exact ⟨rfl, HA.out _ h1 h2, turned_size h2⟩
  | some r =>
    obtain ⟨hr, hrn⟩ := look_some hf
    cases hl : k.last with
    | none =>
      have e : k.drop nm = { k with rs := delR nm k.rs } := by unfold DS.drop; rw [hf]; simp [hl]
      rw [e]
      have HA : Hid (∀ w', w'.ownsMap Tryz.prog 9 ptrElem k.m k.rs.length (.map ((delR nm k.rs).map Rw.ent)) → w.mapTurned w' k.m → At S w0 w' d { k with rs := delR nm k.rs }) := fun w' h1 h2 => h.delM h1 h2 (fun b hb => by rw [hl] at hb; cases hb)
      rw [hl] at c1
      unfold ptrV at c1
      clear e h hr hrn hl
      go_enter Tryz.func140, Tryz.ntmps140
      go_wp2_with (first
        | (at_lookup; refine wpList_look_some rfl _ _ rfl _ _ _ rfl hm nm rfl hn r hf ?_)
        | (at_delete; refine wpList_mapDel rfl _ _ rfl _ _ _ rfl hm nm rfl hn ?_; intro w1 h1 h2)
        | go_in)
      go_end0
      exact ⟨rfl, HA.out _ h1 h2, turned_size h2⟩
    | some b =>
      by_cases hb : b = r.b
      · subst hb
        have e : k.drop nm = { k with last := none, rs := delR nm k.rs } := by unfold DS.drop; rw [hf]; simp [hl]
        rw [e]
        have h3 := h.setD1 none (by simp)
        have hm3 := h3.dk.hm
        have HA : Hid (∀ w', w'.ownsMap Tryz.prog 9 ptrElem k.m k.rs.length (.map ((delR nm k.rs).map Rw.ent)) → (w.setCell ⟨d, 1, none⟩ (ptrV none)).mapTurned w' k.m → At S w0 w' d { k with last := none, rs := delR nm k.rs }) := fun w' h1 h2 => h3.delM h1 h2 (by simp)
        have HZ : Hid ((w.setCell ⟨d, 1, none⟩ (ptrV none)).heap.size = w.heap.size) := size_set _ _ _
        rw [hl] at c1
        unfold ptrV at c1 hm3 HA HZ
        simp only at hm3
        have heq := ptr_same w r.b
        clear e h h3 hr hrn hl
        go_enter Tryz.func140, Tryz.ntmps140
        go_wp2_with (first
          | (at_lookup; refine wpList_look_some rfl _ _ rfl _ _ _ rfl hm nm rfl hn r hf ?_)
          | (at_delete; refine wpList_mapDel rfl _ _ rfl _ _ _ rfl hm3 nm rfl hn ?_; intro w1 h1 h2)
          | go_in)
        go_end0
        exact ⟨rfl, HA.out _ h1 h2, (turned_size h2).trans HZ.out⟩
      · have e : k.drop nm = { k with rs := delR nm k.rs } := by unfold DS.drop; rw [hf]; simp [hl, hb]
        rw [e]
        have HA : Hid (∀ w', w'.ownsMap Tryz.prog 9 ptrElem k.m k.rs.length (.map ((delR nm k.rs).map Rw.ent)) → w.mapTurned w' k.m → At S w0 w' d { k with rs := delR nm k.rs }) := fun w' h1 h2 => h.delM h1 h2 (fun b' hb' => by
          rw [hl] at hb'
          cases hb'
          obtain ⟨q, hq, hqb⟩ := h.dk.la b hl
          refine ⟨q, mem_delR.2 ⟨hq, fun e => hb ?_⟩, hqb⟩
          rw [← hqb, h.dk.nms hr hq (by rw [e, hrn])])
        rw [hl] at c1
        unfold ptrV at c1
        have hb2 : ¬ r.b = b := fun e => hb e.symm
        obtain ⟨q, hq, hqb⟩ := h.dk.la b hl
        have heq := ptr_other (h.dk.fs r hr) (h.dk.fs q hq) (by rw [hqb]; exact hb2)
        rw [hqb] at heq
        clear e h hr hrn hl hq hqb
        go_enter Tryz.func140, Tryz.ntmps140
        go_wp2_with (first
          | (at_lookup; refine wpList_look_some rfl _ _ rfl _ _ _ rfl hm nm rfl hn r hf ?_)
          | (at_delete; refine wpList_mapDel rfl _ _ rfl _ _ _ rfl hm nm rfl hn ?_; intro w1 h1 h2)
          | go_in)
        go_end0
        exact ⟨rfl, HA.out _ h1 h2, turned_size h2⟩

set_option maxRecDepth 100000 in
set_option maxHeartbeats 2000000 in
theorem remove_any {S : Nat → Prop} {w : World} {d : Nat} {k : DS} (h : DkC S w d k) (nm : List UInt8) (hn : nm.length ≤ maxLen) : Calls Tryz.prog 97 #[.pointer (some ⟨d, 0, none⟩), .string ⟨nm.toArray⟩] w fun r w' => Done S w d (doRemove k.pd nm) r w' := by
  obtain ⟨⟨c0, c1, c2, c3⟩, f1, f2, f3⟩ := h.cells
  have HX : Hid (doRemove k.pd nm = if k.dn then (11, k.pd) else if (look nm k.rs).isSome = false then (8, k.pd) else if k.fell then (11, k.pd.fail) else (0, { k.pd.fail with fs := delP nm k.pd.fs })) := by
    show doRemove k.pd nm = _
    unfold doRemove
    rw [look_pd, Option.isSome_map]; rfl
  cases hdn : k.dn with
  | true =>
    rw [hdn] at c3
    have HH : Hid (DkC S w d k) := h
    clear h
    go_enter Tryz.func97, Tryz.ntmps97
    go_wp2
    go_ret
    exact Done.mk (by rw [HX.out, hdn]; rfl) rfl (At.start HH.out) rfl
  | false =>
    rw [hdn] at c3
    have hh := has_any h nm hn
    cases hl : (look nm k.rs).isSome with
    | false =>
      rw [hl] at hh
      have HH : Hid (DkC S w d k) := h
      clear h
      go_enter Tryz.func97, Tryz.ntmps97
      go_wp2_with (go_at_call 139; refine hh.mono ?_; rintro e w1 ⟨rfl, rfl⟩)
      go_ret
      exact Done.mk (by rw [HX.out, hdn, hl]; rfl) rfl (At.start HH.out) rfl
    | true =>
      rw [hl] at hh
      have hfa := fails_any (At.start h)
      cases hfe : k.fell with
      | true =>
        rw [hfe] at hfa
        clear h
        go_enter Tryz.func97, Tryz.ntmps97
        go_wp2_with (first | (go_at_call 139; refine hh.mono ?_; rintro e w1 ⟨rfl, rfl⟩) | (go_at_call 137; refine hfa.mono ?_; rintro e w2 ⟨rfl, h2, hs2⟩))
        go_ret
        exact Done.mk (by rw [HX.out, hdn, hl, hfe]; rfl) rfl h2 (fail_pd k)
      | false =>
        rw [hfe] at hfa
        clear h
        go_enter Tryz.func97, Tryz.ntmps97
        go_wp2_with (first | (go_at_call 139; refine hh.mono ?_; rintro e w1 ⟨rfl, rfl⟩) | (go_at_call 137; refine hfa.mono ?_; rintro e w2 ⟨rfl, h2, hs2⟩; have hdr := drop_any h2 nm hn) | (go_at_call 140; refine hdr.mono ?_; rintro e w3 ⟨rfl, h3, hs3⟩))
        go_ret
        exact Done.mk (by rw [HX.out, hdn, hl, hfe]; rfl) rfl h3 (by rw [h2.dk.drop_pd, fail_pd, pd_fail_fs])

theorem Ow.len47 {N : Nat} {w : World} {v : Value} {l : List UInt8} (h : Ow N w v l) : ∃ a cap, v = .slice a l.length cap := by
  obtain ⟨a, cap, e, _⟩ := h.shape
  exact ⟨a, cap, e⟩

set_option maxRecDepth 100000 in
set_option maxHeartbeats 2000000 in
theorem sync_any {S : Nat → Prop} {w : World} {d : Nat} {k : DS} (h : DkC S w d k) (nm : List UInt8) (hn : nm.length ≤ maxLen) : Calls Tryz.prog 93 #[.pointer (some ⟨d, 0, none⟩), .string ⟨nm.toArray⟩] w fun r w' => Done S w d (doSync k.pd nm) r w' := by
  obtain ⟨⟨c0, c1, c2, c3⟩, f1, f2, f3⟩ := h.cells
  have hm := h.hm
  have HX : Hid (doSync k.pd nm = if k.dn then (11, k.pd) else if (look nm k.rs).isSome = false then (8, k.pd) else if k.fell then (11, k.pd.fail) else (0, { k.pd.fail with fs := k.pd.fs.map (syncP nm) })) := by
    show doSync k.pd nm = _
    unfold doSync
    rw [look_pd, Option.isSome_map]; rfl
  have HH : Hid (DkC S w d k) := h
  cases hf : look nm k.rs with
  | none =>
    clear h
    cases hdn : k.dn with
    | true =>
      rw [hdn] at c3
      go_enter Tryz.func93, Tryz.ntmps93
      go_wp2_with (at_lookup; refine wpList_look_none rfl _ _ rfl _ _ _ rfl hm nm rfl hn hf ?_)
      go_ret
      exact Done.mk (by rw [HX.out, hdn]; rfl) rfl (At.start HH.out) rfl
    | false =>
      rw [hdn] at c3
      go_enter Tryz.func93, Tryz.ntmps93
      go_wp2_with (at_lookup; refine wpList_look_none rfl _ _ rfl _ _ _ rfl hm nm rfl hn hf ?_)
      go_ret
      exact Done.mk (by rw [HX.out, hdn, hf]; rfl) rfl (At.start HH.out) rfl
  | some r =>
    obtain ⟨hr, hrn⟩ := look_some hf
    cases hdn : k.dn with
    | true =>
      rw [hdn] at c3
      clear h
      go_enter Tryz.func93, Tryz.ntmps93
      go_wp2_with (at_lookup; refine wpList_look_some rfl _ _ rfl _ _ _ rfl hm nm rfl hn r hf ?_)
      go_ret
      exact Done.mk (by rw [HX.out, hdn]; rfl) rfl (At.start HH.out) rfl
    | false =>
      rw [hdn] at c3
      have hfa := fails_any (At.start h)
      clear h
      cases hfe : k.fell with
      | true =>
        rw [hfe] at hfa
        go_enter Tryz.func93, Tryz.ntmps93
        go_wp2_with (first | (at_lookup; refine wpList_look_some rfl _ _ rfl _ _ _ rfl hm nm rfl hn r hf ?_) | (go_at_call 137; refine hfa.mono ?_; rintro e w2 ⟨rfl, h2, hs2⟩))
        go_ret
        exact Done.mk (by rw [HX.out, hdn, hf, hfe]; rfl) rfl h2 (fail_pd k)
      | false =>
        rw [hfe] at hfa
        go_enter Tryz.func93, Tryz.ntmps93
        go_wp2_with (first | (at_lookup; refine wpList_look_some rfl _ _ rfl _ _ _ rfl hm nm rfl hn r hf ?_) | (go_at_call 137; refine hfa.mono ?_; rintro e w2 ⟨rfl, h2, hs2⟩; have hr2 : r ∈ k.fail.rs := (by rw [fail_rs]; exact hr); have hF := h2.dk.fs r hr2; obtain ⟨⟨g0, g1⟩, g2, g3⟩ := hF.cells; obtain ⟨av, capv, hv⟩ := hF.own.len47; have HV : Hid (r.v = .slice av r.dat.length capv) := hv; rw [hv] at g0; clear hv))
        go_ret
        have h3 := h2.turnF1 (w' := w2.setCell ⟨r.b, 1, none⟩ (.int .i64 (r.dat.length : Int))) (r' := { r with syn := r.dat.length }) hr2 (Out.set rfl) (size_set _ _ _) (heap_set hF.cell 1 _) rfl rfl (fun g hg => hg) hF.own (Nat.le_refl _) (Nat.le_refl _)
        refine Done.mk (by rw [HX.out, hdn, hf, hfe]; rfl) rfl h3 ?_
        have e1 : (k.fail.rs.map (repl { r with syn := r.dat.length })).map (Rw.pf k.fail.last) = (k.fail.rs.map (Rw.pf k.fail.last)).map (syncP nm) := map_repl (r' := { r with syn := r.dat.length }) h2.dk.ap hr2 rfl k.fail.last k.fail.last (syncP nm) (by simp [syncP, Rw.pf, hrn]) (fun q hq hne => by
          have := h2.dk.nm_ne hr2 hq hne
          rw [hrn] at this
          simp [syncP, Rw.pf, this])
        have e2 : k.fail.pd.fs = k.pd.fs := by rw [fail_pd, pd_fail_fs]
        show PD.mk _ _ _ = _
        rw [e1]
        have e3 := fail_pd k
        rw [← e3, ← e2]; rfl

end Go.Proofs.YtnahghldlkjleaaGreatDoor
namespace Go.Proofs.YtnahghldlkjleaaGreatDoor
open Go.RowKit

theorem At.alloc {S : Nat → Prop} {w0 w : World} {d : Nat} {k : DS} (h : At S w0 w d k) (o : Obj) : At S w0 (w.alloc o) d k := by
  have hO : Out (fun _ => False) w (w.alloc o) := Out.grown (World.grownBy_alloc w o none) (by simp)
  refine h.go (hO.mono (fun _ hf => hf.elim)) ?_
  refine (h.dk.out hO (fun _ _ hf => hf)).mono (fun i hi => grew_mono (by simp) hi) (fun i hi => ?_)
  have h1 := h.out.size
  rcases hi with hi | hi
  · have := h.dk.inn i (.inl hi); simp; omega
  · exact hi.2

/-- A new file. -/
theorem At.create {S : Nat → Prop} {w0 w w' : World} {d n : Nat} {k : DS} {nm : List UInt8} (h : At S w0 w d k) (hnm : nm.length ≤ 32) (hfew : k.rs.length < 256)
    (hm : w'.ownsMap Tryz.prog 9 ptrElem k.m n (.map ((insR ⟨nm, w.heap.size, .slice none 0 0, [], 0⟩ (delR nm k.rs)).map Rw.ent))) (hl : look nm k.rs = none) (ht : (w.alloc (.cells #[.slice none 0 0, .int .i64 0] 105)).mapTurned w' k.m) :
    At S w0 w' d { k with rs := insR ⟨nm, w.heap.size, .slice none 0 0, [], 0⟩ (delR nm k.rs) } := by
  have hsz := turned_size ht
  have h1 := h.alloc (.cells #[.slice none 0 0, .int .i64 0] 105)
  have hlt := h.out.size
  refine h1.go ((turned_out ht).mono (fun i hi => by rw [hi]; exact h1.dk.Sm)) ?_
  have hold : ∀ q ∈ delR nm k.rs, q ∈ k.rs := fun q hq => (mem_delR.1 hq).1
  have hdk := h1.dk.turnM (turned_out ht) hsz _ hm ?_ (apart_insR (apart_delR h.dk.ap) ?_) ?_ ?_ ?_
  · exact hdk.mono (fun i hi => grew_mono (by omega) hi) (fun i hi => by have := h1.dk.inn i (grew_mono (by omega) hi); omega)
  · intro r hr
    rcases mem_insR.1 hr with rfl | hr
    · exact ⟨⟨heap_alloc_new w _, Ow.nil _ _, Nat.le_refl _, hnm⟩, .inr ⟨hlt, by simp⟩, by simp [Value.ownBlock]⟩
    · exact ⟨h1.dk.fs r (hold r hr), h1.dk.Sf r (hold r hr)⟩
  · intro q hq
    have := h.dk.inn _ (h.dk.Sf q (hold q hq)).1
    exact ⟨fun e => by simp only at e; omega, by simp [Value.ownBlock]⟩
  · intro b hb
    obtain ⟨q, hq, hqb⟩ := h.dk.la b hb
    exact ⟨q, mem_insR.2 (.inr (mem_delR.2 ⟨hq, look_none hl hq⟩)), hqb⟩
  · rw [len_insR]
    have := len_delR nm k.rs
    omega
  · rw [sum_insR]
    have := sum_delR nm k.rs
    have := h.dk.all
    simp only [List.length_nil]
    omega
theorem create_pd {S : Nat → Prop} {w0 w : World} {d b : Nat} {k : DS} (h : At S w0 w d k) (hb : w.heap.size ≤ b) (nm : List UInt8) (v : Value) : ({ k with rs := insR ⟨nm, b, v, [], 0⟩ (delR nm k.rs) } : DS).pd = { k.pd with fs := insP ⟨nm, [], 0, false⟩ (delP nm k.pd.fs) } := by
  show PD.mk ((insR ⟨nm, b, v, [], 0⟩ (delR nm k.rs)).map (Rw.pf k.last)) _ _ = PD.mk (insP ⟨nm, [], 0, false⟩ (delP nm (k.rs.map (Rw.pf k.last)))) _ _
  rw [ins_pf, del_pf]
  have e : Rw.pf k.last ⟨nm, b, v, [], 0⟩ = ⟨nm, [], 0, false⟩ := by
    unfold Rw.pf
    have : (k.last == some b) = false := by
      cases hl : k.last with
      | none => rfl
      | some c =>
        obtain ⟨r, hr, hrb⟩ := h.dk.la c hl
        have := h.dk.inn _ (h.dk.Sf r hr).1
        simp; omega
    rw [this]
  rw [e]
  rfl

theorem isNm_len {nm : List UInt8} (h : isNm nm = true) : nm.length ≤ 32 := by
  simp [isNm] at h
  exact h.1.2

set_option maxRecDepth 100000 in
set_option maxHeartbeats 4000000 in
theorem create_any {S : Nat → Prop} {w : World} {d : Nat} {k : DS} (h : DkC S w d k) (nm : List UInt8) (hn : nm.length ≤ maxLen) : Calls Tryz.prog 162 #[.pointer (some ⟨d, 0, none⟩), .string ⟨nm.toArray⟩] w fun r w' => Done S w d (doCreate k.pd nm) r w' := by
  obtain ⟨⟨c0, c1, c2, c3⟩, f1, f2, f3⟩ := h.cells
  have HX : Hid (doCreate k.pd nm = if k.dn then (11, k.pd) else if isNm nm = false then (7, k.pd) else if (look nm k.rs).isSome then (9, k.pd) else if 256 ≤ k.rs.length then (10, k.pd) else if k.fell then (11, k.pd.fail) else (0, { k.pd.fail with fs := insP ⟨nm, [], 0, false⟩ (delP nm k.pd.fs) })) := by
    show doCreate k.pd nm = _
    unfold doCreate
    rw [look_pd, Option.isSome_map]
    have : k.pd.fs.length = k.rs.length := by simp [DS.pd]
    rw [this]; rfl
  have HH : Hid (DkC S w d k) := h
  cases hdn : k.dn with
  | true =>
    rw [hdn] at c3
    clear h
    go_enter Tryz.func162, Tryz.ntmps162
    go_wp2
    go_ret
    exact Done.mk (by rw [HX.out, hdn]; rfl) rfl (At.start HH.out) rfl
  | false =>
    rw [hdn] at c3
    have hin := isName_any nm w hn
    cases hnm : isNm nm with
    | false =>
      rw [hnm] at hin
      clear h
      go_enter Tryz.func162, Tryz.ntmps162
      go_wp2_with (go_at_call 145; refine hin.mono ?_; rintro e w1 ⟨rfl, rfl⟩)
      go_ret
      exact Done.mk (by rw [HX.out, hdn, hnm]; rfl) rfl (At.start HH.out) rfl
    | true =>
      rw [hnm] at hin
      have hh := has_any h nm hn
      cases hl : look nm k.rs with
      | some r =>
        rw [hl] at hh
        clear h
        go_enter Tryz.func162, Tryz.ntmps162
        go_wp2_with (first | (go_at_call 145; refine hin.mono ?_; rintro e w1 ⟨rfl, rfl⟩) | (go_at_call 139; refine hh.mono ?_; rintro e w1 ⟨rfl, rfl⟩))
        go_ret
        exact Done.mk (by rw [HX.out, hdn, hnm, hl]; rfl) rfl (At.start HH.out) rfl
      | none =>
        rw [hl] at hh
        have hm := h.hm
        have hfew := h.few
        by_cases hlen : 256 ≤ k.rs.length
        · clear h
          go_enter Tryz.func162, Tryz.ntmps162
          go_wp2_with (first | (go_at_call 145; refine hin.mono ?_; rintro e w1 ⟨rfl, rfl⟩) | (go_at_call 139; refine hh.mono ?_; rintro e w1 ⟨rfl, rfl⟩) | (at_len; refine wpList_mapLen rfl _ rfl _ _ _ rfl hm ?_))
          go_ret
          exact Done.mk (by rw [HX.out, hdn, hnm, hl, if_pos hlen]; rfl) rfl (At.start HH.out) rfl
        · have hfa := fails_any (At.start h)
          clear h
          cases hfe : k.fell with
          | true =>
            rw [hfe] at hfa
            go_enter Tryz.func162, Tryz.ntmps162
            go_wp2_with (first | (go_at_call 145; refine hin.mono ?_; rintro e w1 ⟨rfl, rfl⟩) | (go_at_call 139; refine hh.mono ?_; rintro e w1 ⟨rfl, rfl⟩) | (at_len; refine wpList_mapLen rfl _ rfl _ _ _ rfl hm ?_) | (go_at_call 137; refine hfa.mono ?_; rintro e w2 ⟨rfl, h2, hs2⟩))
            go_ret
            exact Done.mk (by rw [HX.out, hdn, hnm, hl, if_neg hlen, hfe]; rfl) rfl h2 (fail_pd k)
          | false =>
            rw [hfe] at hfa
            go_enter Tryz.func162, Tryz.ntmps162
            go_wp2_with (first | (go_at_call 145; refine hin.mono ?_; rintro e w1 ⟨rfl, rfl⟩) | (go_at_call 139; refine hh.mono ?_; rintro e w1 ⟨rfl, rfl⟩) | (at_len; refine wpList_mapLen rfl _ rfl _ _ _ rfl hm ?_) | (go_at_call 137; refine hfa.mono ?_; rintro e w2 ⟨rfl, h2, -⟩; obtain ⟨⟨d0, -⟩, -⟩ := h2.dk.cells; have hm2 := (h2.alloc (.cells #[.slice none 0 0, .int .i64 0] 105)).dk.hm) | (at_mapUpdate; refine wpList_mapPut rfl _ _ _ rfl _ _ _ rfl hm2 ⟨nm, w2.heap.size, .slice none 0 0, [], 0⟩ rfl hn rfl (by rw [fail_rs]; omega) ?_; intro w3 h3 ht3) | go_in)
            go_ret
            refine Done.mk (by rw [HX.out, hdn, hnm, hl, if_neg hlen, hfe]; rfl) rfl (h2.create (isNm_len hnm) (by rw [fail_rs]; omega) h3 (by rw [fail_rs]; exact hl) ht3) ?_
            rw [create_pd h2 (Nat.le_refl _), fail_pd, pd_fail_fs]

/-- A shorter slice of the same bytes. -/
theorem Ow.cut {N : Nat} {w : World} {a : Option Addr} {len cap : Nat} {l : List UInt8} (h : Ow N w (.slice a len cap) l) {n : Nat} (hn : n ≤ l.length) : Ow N w (.slice a n cap) (l.take n) := by
  unfold Ow at *
  have e : (l.take n).length = n := by simp; omega
  refine ⟨by simp, ?_⟩
  rcases h.2 with ⟨hv, h0⟩ | ⟨g, cap', cur, hv, hg, hb, h1, h2, h3, h4⟩
  · cases hv
    have : l = [] := List.length_eq_zero_iff.1 h0
    subst this
    have : n = 0 := by simpa using hn
    subst this
    exact .inl ⟨rfl, rfl⟩
  · cases hv
    refine .inr ⟨g, _, cur, by rw [e], hg, hb, by rw [e]; omega, h2, h3, ?_⟩
    simp only [Nat.mul_one] at h4 ⊢
    rw [e, List.map_take, ← h4, List.take_take, Nat.min_eq_left hn]

set_option maxRecDepth 100000 in
set_option maxHeartbeats 4000000 in
theorem cut_any {S : Nat → Prop} {w : World} {d : Nat} {k : DS} (h : DkC S w d k) (nm : List UInt8) (hn : nm.length ≤ maxLen) (n : Int) : Calls Tryz.prog 165 #[.pointer (some ⟨d, 0, none⟩), .string ⟨nm.toArray⟩, .int .i64 n] w fun r w' => Done S w d (doCut k.pd nm n) r w' := by
  obtain ⟨⟨c0, c1, c2, c3⟩, f1, f2, f3⟩ := h.cells
  have hm := h.hm
  have HH : Hid (DkC S w d k) := h
  cases hf : look nm k.rs with
  | none =>
    have HX : Hid (doCut k.pd nm n = if k.dn then (11, k.pd) else (8, k.pd)) := by
      show doCut k.pd nm n = _
      unfold doCut
      rw [look_pd, hf]; rfl
    clear h
    cases hdn : k.dn with
    | true =>
      rw [hdn] at c3
      go_enter Tryz.func165, Tryz.ntmps165
      go_wp2_with (at_lookup; refine wpList_look_none rfl _ _ rfl _ _ _ rfl hm nm rfl hn hf ?_)
      go_ret
      exact Done.mk (by rw [HX.out, hdn]; rfl) rfl (At.start HH.out) rfl
    | false =>
      rw [hdn] at c3
      go_enter Tryz.func165, Tryz.ntmps165
      go_wp2_with (at_lookup; refine wpList_look_none rfl _ _ rfl _ _ _ rfl hm nm rfl hn hf ?_)
      go_ret
      exact Done.mk (by rw [HX.out, hdn]; rfl) rfl (At.start HH.out) rfl
  | some r =>
    obtain ⟨hr, hrn⟩ := look_some hf
    have HX : Hid (doCut k.pd nm n = if k.dn then (11, k.pd) else if n < 0 ∨ (r.dat.length : Int) < n then (1, k.pd) else if k.fell then (11, k.pd.fail) else (0, { k.pd.fail with fs := k.pd.fs.map (cutP nm n.toNat) })) := by
      show doCut k.pd nm n = _
      unfold doCut
      rw [look_pd, hf]; rfl
    cases hdn : k.dn with
    | true =>
      rw [hdn] at c3
      clear h
      go_enter Tryz.func165, Tryz.ntmps165
      go_wp2_with (at_lookup; refine wpList_look_some rfl _ _ rfl _ _ _ rfl hm nm rfl hn r hf ?_)
      go_ret
      exact Done.mk (by rw [HX.out, hdn]; rfl) rfl (At.start HH.out) rfl
    | false =>
      rw [hdn] at c3
      have hfa := fails_any (At.start h)
      have hF0 := h.fs r hr
      obtain ⟨⟨e0, e1⟩, -⟩ := hF0.cells
      obtain ⟨av, capv, hv, hlc, hcm⟩ := hF0.own.shape
      have HV : Hid (r.v = .slice av r.dat.length capv) := hv
      unfold maxLen at hcm
      rw [hv] at e0
      clear h hv
      by_cases hneg : n < 0
      · clear hF0
        go_enter Tryz.func165, Tryz.ntmps165
        go_wp2_with (at_lookup; refine wpList_look_some rfl _ _ rfl _ _ _ rfl hm nm rfl hn r hf ?_)
        go_ret
        exact Done.mk (by rw [HX.out, hdn, if_pos (Or.inl hneg)]; rfl) rfl (At.start HH.out) rfl
      by_cases hbig : (r.dat.length : Int) < n
      · clear hF0
        have hneg' : decide (n < 0) = false := by simp; omega
        go_enter Tryz.func165, Tryz.ntmps165
        go_wp2_with (at_lookup; refine wpList_look_some rfl _ _ rfl _ _ _ rfl hm nm rfl hn r hf ?_)
        go_ret
        exact Done.mk (by rw [HX.out, hdn, if_pos (Or.inr hbig)]; rfl) rfl (At.start HH.out) rfl
      obtain ⟨m, rfl⟩ : ∃ m : Nat, n = (m : Int) := ⟨n.toNat, by omega⟩
      have hml : m ≤ r.dat.length := by omega
      have HC : Hid (¬ ((m : Int) < 0 ∨ (r.dat.length : Int) < (m : Int))) := by show ¬ _; omega
      clear hneg hbig hF0
      cases hfe : k.fell with
      | true =>
        rw [hfe] at hfa
        go_enter Tryz.func165, Tryz.ntmps165
        go_wp2_with (first | (at_lookup; refine wpList_look_some rfl _ _ rfl _ _ _ rfl hm nm rfl hn r hf ?_) | (go_at_call 137; refine hfa.mono ?_; rintro e w2 ⟨rfl, h2, hs2⟩))
        go_ret
        exact Done.mk (by rw [HX.out, hdn, if_neg HC.out, hfe]; rfl) rfl h2 (fail_pd k)
      | false =>
        rw [hfe] at hfa
        by_cases hms : m < r.syn
        · skip
          go_enter Tryz.func165, Tryz.ntmps165
          go_wp2_with (first | (at_lookup; refine wpList_look_some rfl _ _ rfl _ _ _ rfl hm nm rfl hn r hf ?_) | (go_at_call 137; refine hfa.mono ?_; rintro e w2 ⟨rfl, h2, -⟩; have hr2 : r ∈ k.fail.rs := (by rw [fail_rs]; exact hr); have hF := h2.dk.fs r hr2; obtain ⟨⟨g0, g1⟩, g2, g3⟩ := hF.cells; rw [HV.out] at g0))
          go_ret
          have hown := hF.own
          rw [HV.out] at hown
          have h3 := h2.turnF1 (w' := (w2.setCell ⟨r.b, 0, none⟩ (.slice av m capv)).setCell ⟨r.b, 1, none⟩ (.int .i64 ((m : Nat) : Int))) (r' := { r with v := .slice av m capv, dat := r.dat.take m, syn := m }) hr2 ((Out.set (X := (· = r.b)) rfl).trans (Out.set (X := (· = r.b)) rfl) (fun i hi _ => hi)) ((size_set _ _ _).trans (size_set _ _ _)) (heap_set (heap_set hF.cell 0 _) 1 _) rfl rfl (fun g hg => by rw [HV.out]; cases av <;> exact hg) (hown.cut hml) (by have := hF.syn; simp; omega) (by simp; omega)
          refine Done.mk (by rw [HX.out, hdn, if_neg HC.out, hfe]; rfl) rfl h3 ?_
          have e1 : (k.fail.rs.map (repl { r with v := .slice av m capv, dat := r.dat.take m, syn := m })).map (Rw.pf k.fail.last) = (k.fail.rs.map (Rw.pf k.fail.last)).map (cutP nm m) := map_repl (r' := { r with v := .slice av m capv, dat := r.dat.take m, syn := m }) h2.dk.ap hr2 rfl k.fail.last k.fail.last (cutP nm m) (by simp [cutP, Rw.pf, hrn]; omega) (fun q hq hne => by
            have := h2.dk.nm_ne hr2 hq hne
            rw [hrn] at this
            simp [cutP, Rw.pf, this])
          have e2 : k.fail.pd.fs = k.pd.fs := by rw [fail_pd, pd_fail_fs]
          show PD.mk _ _ _ = _
          rw [e1]
          have e3 := fail_pd k
          rw [← e3, ← e2]; rfl
        · skip
          go_enter Tryz.func165, Tryz.ntmps165
          go_wp2_with (first | (at_lookup; refine wpList_look_some rfl _ _ rfl _ _ _ rfl hm nm rfl hn r hf ?_) | (go_at_call 137; refine hfa.mono ?_; rintro e w2 ⟨rfl, h2, -⟩; have hr2 : r ∈ k.fail.rs := (by rw [fail_rs]; exact hr); have hF := h2.dk.fs r hr2; obtain ⟨⟨g0, g1⟩, g2, g3⟩ := hF.cells; rw [HV.out] at g0))
          go_ret
          have hown := hF.own
          rw [HV.out] at hown
          have h3 := h2.turnF1 (w' := (w2.setCell ⟨r.b, 0, none⟩ (.slice av m capv)).setCell ⟨r.b, 1, none⟩ (.int .i64 ((r.syn : Nat) : Int))) (r' := { r with v := .slice av m capv, dat := r.dat.take m, syn := r.syn }) hr2 ((Out.set (X := (· = r.b)) rfl).trans (Out.set (X := (· = r.b)) rfl) (fun i hi _ => hi)) ((size_set _ _ _).trans (size_set _ _ _)) (heap_set (heap_set hF.cell 0 _) 1 _) rfl rfl (fun g hg => by rw [HV.out]; cases av <;> exact hg) (hown.cut hml) (by have := hF.syn; simp; omega) (by simp; omega)
          refine Done.mk (by rw [HX.out, hdn, if_neg HC.out, hfe]; rfl) rfl h3 ?_
          have e1 : (k.fail.rs.map (repl { r with v := .slice av m capv, dat := r.dat.take m, syn := r.syn })).map (Rw.pf k.fail.last) = (k.fail.rs.map (Rw.pf k.fail.last)).map (cutP nm m) := map_repl (r' := { r with v := .slice av m capv, dat := r.dat.take m, syn := r.syn }) h2.dk.ap hr2 rfl k.fail.last k.fail.last (cutP nm m) (by simp [cutP, Rw.pf, hrn]; omega) (fun q hq hne => by
            have := h2.dk.nm_ne hr2 hq hne
            rw [hrn] at this
            simp [cutP, Rw.pf, this])
          have e2 : k.fail.pd.fs = k.pd.fs := by rw [fail_pd, pd_fail_fs]
          show PD.mk _ _ _ = _
          rw [e1]
          have e3 := fail_pd k
          rw [← e3, ← e2]; rfl

/-- A file is called otherwise. -/
theorem At.renamed {S : Nat → Prop} {w0 w w1 w' : World} {d n : Nat} {k : DS} {nm to : List UInt8} {r : Rw} (h : At S w0 w d k) (hto : to.length ≤ 32) (hr : r ∈ k.rs) (hrn : r.nm = nm) (hno : ∀ q ∈ k.rs, q.nm ≠ to)
    (hm : w'.ownsMap Tryz.prog 9 ptrElem k.m n (.map ((insR { r with nm := to } (delR to (delR nm k.rs))).map Rw.ent))) (ht : w.mapTurned w1 k.m) (ht' : w1.mapTurned w' k.m) :
    At S w0 w' d { k with rs := insR { r with nm := to } (delR to (delR nm k.rs)) } := by
  have hsz : w'.heap.size = w.heap.size := (turned_size ht').trans (turned_size ht)
  have hO : Out (· = k.m) w w' := (turned_out ht).trans (turned_out ht') (fun i hi _ => hi)
  refine h.go (hO.mono (fun i hi => by rw [hi]; exact h.dk.Sm)) ?_
  have hold : ∀ q ∈ delR to (delR nm k.rs), q ∈ k.rs ∧ q.nm ≠ nm := fun q hq => mem_delR.1 (mem_delR.1 hq).1
  have hdk := h.dk.turnM hO hsz _ hm ?_ (apart_insR (apart_delR (apart_delR h.dk.ap)) ?_) ?_ ?_ ?_
  · exact hdk.mono (fun i hi => grew_mono (by omega) hi) (fun i hi => by have := h.dk.inn i (grew_mono (by omega) hi); omega)
  · intro q hq
    rcases mem_insR.1 hq with rfl | hq
    · have hf := h.dk.fs r hr
      exact ⟨⟨hf.cell, hf.own, hf.syn, hto⟩, h.dk.Sf r hr⟩
    · exact ⟨h.dk.fs q (hold q hq).1, h.dk.Sf q (hold q hq).1⟩
  · intro q hq
    obtain ⟨h1, h2⟩ := hold q hq
    have := (apart_any h.dk.ap r hr q h1).resolve_left (fun e => h2 (by rw [← e, hrn]))
    exact this
  · intro b hb
    obtain ⟨q, hq, hqb⟩ := h.dk.la b hb
    by_cases e : q.nm = nm
    · have : q = r := h.dk.nms hr hq (by rw [e, hrn])
      exact ⟨_, mem_insR.2 (.inl rfl), by rw [← hqb, this]⟩
    · exact ⟨q, mem_insR.2 (.inr (mem_delR.2 ⟨mem_delR.2 ⟨hq, e⟩, hno q hq⟩)), hqb⟩
  · rw [len_insR]
    have h1 := len_delR to (delR nm k.rs)
    have h2 := len_del_lt hr
    rw [hrn] at h2
    have := h.dk.few
    omega
  · rw [sum_insR]
    have h1 := sum_delR to (delR nm k.rs)
    have h2 := sum_del_le hr
    rw [hrn] at h2
    have := h.dk.all
    simp only
    omega

theorem look_drop {nm to : List UInt8} {rs : List Rw} {r : Rw} (h : look nm rs = some r) (hne : nm ≠ to) : r ∈ delR to rs := by
  obtain ⟨h1, h2⟩ := look_some h
  exact mem_delR.2 ⟨h1, by rw [h2]; exact hne⟩

end Go.Proofs.YtnahghldlkjleaaGreatDoor
namespace Go.Proofs.YtnahghldlkjleaaGreatDoor
open Go.RowKit

/-- v is a slice of bytes that reads l, in a block outside S. -/
def SlX (S : Nat → Prop) (W : World) (v : Value) (l : List UInt8) : Prop :=
  ∃ (a : Option Addr) (cap : Nat), v = .slice a l.length cap ∧ l.length ≤ cap ∧ cap ≤ maxLen ∧
    (l = [] ∨ ∃ b off, a = some ⟨b, off, none⟩ ∧ ¬ S b ∧ b < W.heap.size ∧ ∀ i, i < l.length → W.cell? ⟨b, off + i, none⟩ = some (encB (l[i]?.getD 0)))
theorem SlX.out {S : Nat → Prop} {w w' : World} {v : Value} {l : List UInt8} (h : SlX S w v l) (hO : Out S w w') : SlX S w' v l := by
  obtain ⟨a, cap, rfl, h1, h2, h3⟩ := h
  refine ⟨a, cap, rfl, h1, h2, h3.imp id ?_⟩
  rintro ⟨b, off, ha, hb, hlt, hc⟩
  exact ⟨b, off, ha, hb, Nat.lt_of_lt_of_le hlt hO.size, fun i hi => (World.cell?_of_block (a := ⟨b, off + i, none⟩) (hO.block b hlt hb)).trans (hc i hi)⟩
theorem SlX.sl {S : Nat → Prop} {w : World} {v : Value} {l : List UInt8} (h : SlX S w v l) : Sl w.heap.size w v l := by
  obtain ⟨a, cap, rfl, h1, h2, h3⟩ := h
  refine ⟨a, cap, rfl, h1, h2, h3.imp id ?_⟩
  rintro ⟨b, off, ha, hb, hlt, hc⟩
  exact ⟨b, off, ha, hlt, hc⟩
theorem Sl.slx {S : Nat → Prop} {M : Nat} {w : World} {v : Value} {l : List UInt8} (h : Sl M w v l) (hM : M ≤ w.heap.size) (hS : ∀ i, S i → M ≤ i) : SlX S w v l := by
  obtain ⟨a, cap, rfl, h1, h2, h3⟩ := h
  refine ⟨a, cap, rfl, h1, h2, h3.imp id ?_⟩
  rintro ⟨b, off, ha, hb, hc⟩
  exact ⟨b, off, ha, fun hs => by have := hS b hs; omega, by omega, hc⟩
theorem Sl.front {N : Nat} {w : World} {a : Option Addr} {cap : Nat} {l : List UInt8} (h : Sl N w (.slice a l.length cap) l) (j : Nat) (hj : j ≤ l.length) : Sl N w (.slice a j cap) (l.take j) := by
  obtain ⟨a1, cap1, e, h1, h2, h3⟩ := h
  cases e
  have hl : (l.take j).length = j := by simp; omega
  refine ⟨a, cap, by rw [hl], by omega, h2, ?_⟩
  by_cases hz : j = 0
  · left; subst hz; simp
  · right
    obtain ⟨b, off, rfl, hb, h4⟩ := h3.resolve_left (by rintro rfl; simp at hj; omega)
    refine ⟨b, off, rfl, hb, fun i hi => ?_⟩
    rw [hl] at hi
    rw [h4 i (by omega), List.getElem?_take_of_lt hi]

theorem step_append_ow {ops : Array Oper} {o : Oper} {a : Act} {w : World} {K : Act → World → Prop} {Q : Exit → Act → World → Prop} {E : Prop}
    (hg : o.guard = none) (s x : Operand) (hop : o.op = Op.call { callee := Callee.builtin Builtin.append, args := #[s, x], argTypes := #[55, 55] })
    (N M : Nat) (v xv : Value) (l m : List UInt8) (hs : a.eval s = v) (hv : Ow N w v l) (hx : a.eval x = xv) (hsl : Sl M w xv m) (hlen : l.length + m.length ≤ 1099511627776) (hN : N ≤ w.heap.size)
    (hK : ∀ v' w', Ow N w' v' (l ++ m) → w.grownBy w' v.ownBlock → (v'.ownBlock = v.ownBlock ∨ v'.ownBlock = some w.heap.size) → K (a.put o.dst v') w') :
    if Region.wanted o (yielded ops a.tmps) = true then Oper.wp Tryz.prog o a w K Q else E := by
  have hw : Region.wanted o (yielded ops a.tmps) = true := by simp [Region.wanted, hg]
  rw [if_pos hw]
  obtain ⟨v', w', hr, h2, h3, h4⟩ := run_append_ow o.type w N M v xv l m hv hsl hlen hN
  unfold Oper.wp
  simp [execOp, hop, resolve, invoke, builtin, hs, hx, hr, Result.andThen]
  exact hK v' w' h2 h3 h4

theorem At.below {S : Nat → Prop} {w0 w w' : World} {d : Nat} {k : DS} (h : At S w0 w d k) (hB : Below w.heap.size w w') : At S w0 w' d k := by
  have hO : Out (fun _ => False) w w' := Out.of_below hB
  refine h.go (hO.mono (fun _ hf => hf.elim)) ?_
  refine (h.dk.out hO (fun _ _ hf => hf)).mono (fun i hi => grew_mono hB.size hi) (fun i hi => ?_)
  have h1 := h.out.size
  have h2 := hB.size
  rcases hi with hi | hi
  · have := h.dk.inn i (.inl hi); omega
  · exact hi.2

/-- Bytes are behind a file's. -/
theorem At.appended {S : Nat → Prop} {w0 w w1 : World} {d : Nat} {k : DS} (h : At S w0 w d k) {r : Rw} (hr : r ∈ k.rs) {v' : Value} {l' : List UInt8} (hO : Ow 0 w1 v' l') (hg : w.grownBy w1 r.v.ownBlock) (hv : v'.ownBlock = r.v.ownBlock ∨ v'.ownBlock = some w.heap.size)
    (hsyn : r.syn ≤ l'.length) (hsum : sumLen k.rs + l'.length ≤ 16777216 + r.dat.length) :
    At S w0 (w1.setCell ⟨r.b, 0, none⟩ v') d { k with rs := k.rs.map (repl { r with v := v', dat := l' }) } ∧ (w1.heap[r.b]? = some (.cells #[r.v, .int .i64 (r.syn : Int)] 105 (0, 0))) := by
  have hF := h.dk.fs r hr
  have hS := h.dk.Sf r hr
  have hsz := hg.size
  have hcell : w1.heap[r.b]? = some (.cells #[r.v, .int .i64 (r.syn : Int)] 105 (0, 0)) := (hg.block r.b (h.dk.inn _ hS.1) (fun e => hF.ne2 hF.cell (by simp) _ e.symm rfl)).trans hF.cell
  refine ⟨?_, hcell⟩
  have hO1 : Out (fun i => i = r.b ∨ r.v.ownBlock = some i) w (w1.setCell ⟨r.b, 0, none⟩ v') := (Out.grown hg (fun j hj => .inr hj)).trans (Out.set (X := fun i => i = r.b ∨ r.v.ownBlock = some i) (.inl rfl)) (fun i hi _ => hi)
  have hT : ∀ i, grew S w0 w i → grew S w0 (w1.setCell ⟨r.b, 0, none⟩ v') i := fun i hi => grew_mono (by rw [size_set]; exact hsz) hi
  have hlt : ∀ g, v'.ownBlock = some g → g < w1.heap.size := fun g hgo => (World.ownsRow.lt hO g hgo).2
  refine h.go (hO1.mono (fun i hi => hi.elim (fun e => by rw [e]; exact hS.1) (fun e => hS.2 i e))) ?_
  refine h.dk.turnF hr hO1 ⟨heap_set hcell 0 v', hO.out (Out.set (X := (· = r.b)) rfl) (fun g hgo e => ?_), hsyn, hF.nm⟩ rfl rfl (fun g hgo => ?_) ?_ hT (fun g hgo => ?_) (fun i hi => ?_)
  · subst e
    rcases hO.2 with ⟨hv0, _⟩ | ⟨g', cap, cur, hv0, _, hb, _⟩
    · rw [hv0] at hgo; simp [Value.ownBlock] at hgo
    · rw [hv0] at hgo
      simp [Value.ownBlock] at hgo
      subst hgo
      rw [hcell] at hb
      simp at hb
  · rcases hv with e | e
    · exact .inl (e ▸ hgo)
    · simp only at hgo
      rw [e] at hgo; cases hgo; exact .inr (Nat.le_refl _)
  · have := sum_repl (r' := { r with v := v', dat := l' }) h.dk.ap hr rfl
    simp only at this
    omega
  · rcases hv with e | e
    · exact hT _ (hS.2 g (e ▸ hgo))
    · have h1 := hlt g hgo
      simp only at hgo
      rw [e] at hgo; cases hgo
      exact .inr ⟨h.out.size, by rw [size_set]; exact h1⟩
  · rw [size_set]
    rcases hi with hi | hi
    · have := h.dk.inn i (.inl hi); omega
    · have := hi.2; rw [size_set] at this; exact this

theorem app_pd {S : Nat → Prop} {w0 w : World} {d : Nat} {k : DS} (h : At S w0 w d k) {r : Rw} (hr : r ∈ k.rs) {nm : List UInt8} (hrn : r.nm = nm) {k0 : DS} (hk : k.rs = k0.rs) (hl : k.last = some r.b) (v' : Value) (l : List UInt8) :
    (k.rs.map (repl { r with v := v', dat := r.dat ++ l })).map (Rw.pf k.last) = k0.pd.fs.map (appP nm l) := by
  show _ = (k0.rs.map (Rw.pf k0.last)).map (appP nm l)
  rw [← hk]
  refine map_repl (r' := { r with v := v', dat := r.dat ++ l }) h.dk.ap hr rfl k0.last k.last (appP nm l) ?_ (fun q hq hne => ?_)
  · simp [appP, Rw.pf, hrn, hl]
  · have := h.dk.nm_ne hr hq hne
    rw [hrn] at this
    have e : (k.last == some q.b) = false := by rw [hl]; simp; exact fun e => hne e.symm
    simp [appP, Rw.pf, this, e]

set_option maxRecDepth 100000 in
set_option maxHeartbeats 4000000 in
theorem append_any {S : Nat → Prop} {w : World} {d : Nat} {k : DS} (h : DkC S w d k) (nm : List UInt8) (hn : nm.length ≤ maxLen) (a : Option Addr) (cap : Nat) (l : List UInt8) (hx : SlX S w (.slice a l.length cap) l) : Calls Tryz.prog 174 #[.pointer (some ⟨d, 0, none⟩), .string ⟨nm.toArray⟩, .slice a l.length cap] w fun r w' => Done S w d (doAppend k.pd nm l) r w' := by
  obtain ⟨⟨c0, c1, c2, c3⟩, f1, f2, f3⟩ := h.cells
  have hm := h.hm
  have HX : Hid (doAppend k.pd nm l = if k.dn then (11, k.pd) else if (look nm k.rs).isSome = false then (8, k.pd) else if 16777216 < l.length + sumLen k.rs then (10, k.pd) else if k.fell then (11, { k.pd.fail with fs := k.pd.fs.map (appP nm (l.take (l.length / 2))) }) else (0, { k.pd.fail with fs := k.pd.fs.map (appP nm l) })) := by
    show doAppend k.pd nm l = _
    unfold doAppend
    have : sumP k.pd.fs = sumLen k.rs := sum_pf _ _
    rw [look_pd, Option.isSome_map, this]; rfl
  have HH : Hid (DkC S w d k) := h
  have hlm : l.length ≤ 9223372036854775807 := by
    obtain ⟨a1, cap1, e, q1, q2, _⟩ := hx
    unfold maxLen at q2
    omega
  have hcm : l.length ≤ cap ∧ cap ≤ 9223372036854775807 := by
    obtain ⟨a1, cap1, e, q1, q2, _⟩ := hx
    cases e
    unfold maxLen at q2
    omega
  obtain ⟨hcl, hcm⟩ := hcm
  obtain ⟨hh, hhe⟩ : ∃ hh : Nat, l.length / 2 = hh := ⟨_, rfl⟩
  have HQ : Hid (l.length / 2 = hh) := hhe
  have hq : IntKind.i64.wrap ((l.length : Int) / 2) = (hh : Int) := by rw [IntKind.wrap_i64]; omega
  have hq2 : (hh : Int) ≤ (cap : Int) := by omega
  have hql : hh ≤ l.length := by omega
  rw [hhe] at HX
  clear hhe
  have HS : Hid (SlX S w (.slice a l.length cap) l) := hx
  clear hx
  cases hf : look nm k.rs with
  | none =>
    clear h
    cases hdn : k.dn with
    | true =>
      rw [hdn] at c3
      go_enter Tryz.func174, Tryz.ntmps174
      go_wp2_with (at_lookup; refine wpList_look_none rfl _ _ rfl _ _ _ rfl hm nm rfl hn hf ?_)
      go_ret
      exact Done.mk (by rw [HX.out, hdn]; rfl) rfl (At.start HH.out) rfl
    | false =>
      rw [hdn] at c3
      go_enter Tryz.func174, Tryz.ntmps174
      go_wp2_with (at_lookup; refine wpList_look_none rfl _ _ rfl _ _ _ rfl hm nm rfl hn hf ?_)
      go_ret
      exact Done.mk (by rw [HX.out, hdn, hf]; rfl) rfl (At.start HH.out) rfl
  | some r =>
    obtain ⟨hr, hrn⟩ := look_some hf
    cases hdn : k.dn with
    | true =>
      rw [hdn] at c3
      clear h
      go_enter Tryz.func174, Tryz.ntmps174
      go_wp2_with (at_lookup; refine wpList_look_some rfl _ _ rfl _ _ _ rfl hm nm rfl hn r hf ?_)
      go_ret
      exact Done.mk (by rw [HX.out, hdn]; rfl) rfl (At.start HH.out) rfl
    | false =>
      rw [hdn] at c3
      have hsz := size_any h
      have hall := h.all
      clear h
      have hsl0 : (0 : Int) ≤ (sumLen k.rs : Int) := by omega
      by_cases hbig : 16777216 < l.length + sumLen k.rs
      · go_enter Tryz.func174, Tryz.ntmps174
        go_wp2_with (first | (at_lookup; refine wpList_look_some rfl _ _ rfl _ _ _ rfl hm nm rfl hn r hf ?_) | (go_at_call 61; refine hsz.mono ?_; rintro e w1 ⟨rfl, hB1⟩))
        go_ret
        exact Done.mk (by rw [HX.out, hdn, hf, if_pos hbig]; rfl) rfl ((At.start HH.out).below hB1) rfl
      have HB : Hid (¬ 16777216 < l.length + sumLen k.rs) := hbig
      have HF0 : Hid ({ k with last := some r.b }.fell = k.fell) := rfl
      have HR : Hid (r ∈ k.rs) := hr
      have HL : Hid (∀ b, some r.b = some b → ∃ q ∈ k.rs, q.b = b) := fun b hb => ⟨r, hr, by simpa using hb⟩
      cases hfe : k.fell with
      | true =>
        go_enter Tryz.func174, Tryz.ntmps174
        go_wp2_with (first | (at_lookup; refine wpList_look_some rfl _ _ rfl _ _ _ rfl hm nm rfl hn r hf ?_) | (go_at_call 61; refine hsz.mono ?_; rintro e w1 ⟨rfl, hB1⟩; have h1 := (At.start HH.out).below hB1; obtain ⟨⟨b0, b1, b2, b3⟩, t1, t2, t3⟩ := h1.dk.cells; have hfa := fails_any (h1.setD1 (some r.b) HL.out); rw [HF0.out, hfe] at hfa; unfold ptrV at hfa b1) | (go_at_call 137; refine hfa.mono ?_; rintro e w2 ⟨rfl, h2, -⟩; have hr2 : r ∈ ({ k with last := some r.b } : DS).fail.rs := (by rw [fail_rs]; exact HR.out); have hF := h2.dk.fs r hr2; obtain ⟨⟨g0, g1⟩, g2, g3⟩ := hF.cells; have hS2 := HS.out.out h2.out; have ho2 := hF.own))
        have hsl2 := hS2.sl.front hh hql
        obtain ⟨av, capv, hv, -, -⟩ := ho2.shape
        have HV : Hid (r.v = .slice av r.dat.length capv) := hv
        rw [hv] at g0 ho2
        have HA : Hid (∀ v' w3, Ow 0 w3 v' (r.dat ++ l.take hh) → w2.grownBy w3 (Value.slice av r.dat.length capv).ownBlock → (v'.ownBlock = (Value.slice av r.dat.length capv).ownBlock ∨ v'.ownBlock = some w2.heap.size) → At S w (w3.setCell ⟨r.b, 0, none⟩ v') d { ({ k with last := some r.b } : DS).fail with rs := ({ k with last := some r.b } : DS).fail.rs.map (repl { r with v := v', dat := r.dat ++ l.take hh }) } ∧ w3.cell? ⟨r.b, 0, none⟩ = some r.v ∧ w3.frozen? ⟨r.b, 0, none⟩ = false) := fun v' w3 q1 q2 q3 => by
          rw [← HV.out] at q2 q3
          have hh := h2.appended hr2 q1 q2 q3 (by have := hF.syn; simp; omega) (by rw [fail_rs]; have := HB.out; simp only [List.length_append, List.length_take]; omega)
          exact ⟨hh.1, by simp [World.cell?, hh.2], by simp [World.frozen?, hh.2]⟩
        have hlen : r.dat.length + (l.take hh).length ≤ 1099511627776 := by
          have h5 := hF.syn
          have h6 := h2.dk.all
          have h7 := sum_del_le hr2
          have := HB.out
          simp
          omega
        clear hv hF hS2
        go_region_law (refine step_append_ow rfl (.tmp 43) (.tmp 48) rfl 0 w2.heap.size (.slice av r.dat.length capv) (.slice a hh cap) r.dat (l.take hh) (by simp [Act.eval]) ho2 (by simp [Act.eval]) hsl2 hlen (Nat.zero_le _) ?_; intro v' w3 q1 q2 q3; obtain ⟨va, vc, rfl, -, -⟩ := q1.shape; obtain ⟨h3, z0, z1⟩ := HA.out _ w3 q1 ⟨q2.os, q2.tape, q2.output, q2.size, q2.block⟩ q3; rw [HV.out] at z0)
        all_goals (go_wp2; go_ret; have elen : (r.dat ++ l.take hh).length = r.dat.length + hh := (by simp; omega); rw [elen] at h3; refine Done.mk (by rw [HX.out, hdn, hf, if_neg HB.out, hfe]; rfl) rfl h3 ?_; show PD.mk _ _ _ = _; have e1 := app_pd h2 hr2 hrn (k0 := k) (fail_rs _) (fail_last _) (.slice va (r.dat.length + hh) vc) (l.take hh); rw [e1]; have e3 := fail_pd { k with last := some r.b }; have e4 : ({ k with last := some r.b } : DS).pd.fail.arm = k.pd.fail.arm := (by unfold PD.fail DS.pd; split <;> rfl); have e5 : ({ k with last := some r.b } : DS).pd.fail.dn = k.pd.fail.dn := (by unfold PD.fail DS.pd; split <;> rfl); rw [← e4, ← e5, ← e3]; rfl)
      | false =>
        go_enter Tryz.func174, Tryz.ntmps174
        go_wp2_with (first | (at_lookup; refine wpList_look_some rfl _ _ rfl _ _ _ rfl hm nm rfl hn r hf ?_) | (go_at_call 61; refine hsz.mono ?_; rintro e w1 ⟨rfl, hB1⟩; have h1 := (At.start HH.out).below hB1; obtain ⟨⟨b0, b1, b2, b3⟩, t1, t2, t3⟩ := h1.dk.cells; have hfa := fails_any (h1.setD1 (some r.b) HL.out); rw [HF0.out, hfe] at hfa; unfold ptrV at hfa b1) | (go_at_call 137; refine hfa.mono ?_; rintro e w2 ⟨rfl, h2, -⟩; have hr2 : r ∈ ({ k with last := some r.b } : DS).fail.rs := (by rw [fail_rs]; exact HR.out); have hF := h2.dk.fs r hr2; obtain ⟨⟨g0, g1⟩, g2, g3⟩ := hF.cells; have hS2 := HS.out.out h2.out; have ho2 := hF.own; have hsl2 := hS2.sl; obtain ⟨av, capv, hv, -, -⟩ := ho2.shape; have HV : Hid (r.v = .slice av r.dat.length capv) := hv; rw [hv] at g0 ho2; clear hv) | (at_builtin; refine wpList_append_ow rfl _ _ rfl 0 w2.heap.size _ _ r.dat l rfl ho2 rfl hsl2 (by have h5 := hF.syn; have h6 := h2.dk.all; have h7 := sum_del_le hr2; have := HB.out; omega) (Nat.zero_le _) ?_; intro v' w3 q1 q2 q3; obtain ⟨va, vc, rfl, -, -⟩ := q1.shape; rw [← HV.out] at q2 q3; obtain ⟨h3, hc3⟩ := h2.appended hr2 q1 q2 q3 (by have := hF.syn; simp; omega) (by rw [fail_rs]; have := HB.out; simp only [List.length_append]; omega); have z0 : w3.cell? ⟨r.b, 0, none⟩ = some r.v := (by simp [World.cell?, hc3]); have z1 : w3.frozen? ⟨r.b, 0, none⟩ = false := (by simp [World.frozen?, hc3])) | go_in)
        go_ret
        have elen : (r.dat ++ l).length = r.dat.length + l.length := List.length_append
        rw [elen] at h3
        refine Done.mk (by rw [HX.out, hdn, hf, if_neg HB.out, hfe]; rfl) rfl h3 ?_
        show PD.mk _ _ _ = _
        have e1 := app_pd h2 hr2 hrn (k0 := k) (fail_rs _) (fail_last _) (.slice va (r.dat.length + l.length) vc) l
        rw [e1]
        have e3 := fail_pd { k with last := some r.b }
        have e4 : ({ k with last := some r.b } : DS).pd.fail.arm = k.pd.fail.arm := by unfold PD.fail DS.pd; split <;> rfl
        have e5 : ({ k with last := some r.b } : DS).pd.fail.dn = k.pd.fail.dn := by unfold PD.fail DS.pd; split <;> rfl
        rw [← e4, ← e5, ← e3]; rfl

end Go.Proofs.YtnahghldlkjleaaGreatDoor
