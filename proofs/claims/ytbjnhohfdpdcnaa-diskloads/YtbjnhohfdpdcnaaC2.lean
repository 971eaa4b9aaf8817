/-
  Size, drop, Sync, Remove, Create: what each does to a disk.
-/
import Derived.Test.YtbjnhohfdpdcnaaPur
import Derived.LaidEqlPtr
namespace Go.Proofs.Ytbjnhohfdpdcnaa
open Go.RowKit

/-- An operation has answered, and left a disk. -/
def Done (S : Nat → Prop) (w : World) (d : Nat) (x : Nat × PD) (r : Ending) (w' : World) : Prop := ∃ k', r = .returned (.int .i64 (x.1 : Int)) ∧ At S w w' d k' ∧ k'.pd = x.2

theorem Done.mk {S : Nat → Prop} {w w' : World} {d : Nat} {x : Nat × PD} {r : Ending} {k' : DS} {e : Nat} {p : PD} (he : x = (e, p)) (hr : r = .returned (.int .i64 (e : Int))) (h : At S w w' d k') (hp : k'.pd = p) : Done S w d x r w' := by
  subst he
  exact ⟨k', hr, h, hp⟩

/-- The bytes of the files that are still to come. -/
def sumL (left : Lit → Bool) (rs : List Rw) : Nat := sumLen (rs.filter fun r => left (.string r.nm))
theorem sumL_all {left : Lit → Bool} {rs : List Rw} (h : ∀ r ∈ rs, left (.string r.nm) = true) : sumL left rs = sumLen rs := by
  unfold sumL
  rw [List.filter_eq_self.2 h]
theorem sumL_none {left : Lit → Bool} {rs : List Rw} (h : ∀ kl, left kl = false) : sumL left rs = 0 := by
  unfold sumL
  have : rs.filter (fun r => left (.string r.nm)) = [] := List.filter_eq_nil_iff.2 (fun r _ => by simp [h])
  rw [this]; rfl
theorem sumL_step {left : Lit → Bool} : ∀ {rs : List Rw}, rs.Pairwise (fun r q => r.nm ≠ q.nm) → ∀ {f : Rw}, f ∈ rs → left (.string f.nm) = true → sumL left rs = f.dat.length + sumL (fun z => left z && !z.sameKey (.string f.nm)) rs
  | [], _, _, hf, _ => by simp at hf
  | q :: t, hp, f, hf, hl => by
    obtain ⟨h1, h2⟩ := List.pairwise_cons.1 hp
    rcases List.mem_cons.1 hf with e | hf'
    · subst e
      have e1 : t.filter (fun r => left (.string r.nm) && !(Lit.string r.nm).sameKey (.string f.nm)) = t.filter (fun r => left (.string r.nm)) := List.filter_congr (fun x hx => by
        have : x.nm ≠ f.nm := fun e => h1 x hx e.symm
        simp [Lit.sameKey, this])
      simp only [sumL, List.filter_cons, hl, if_true, e1]
      simp [Lit.sameKey, sumLen]
    · have ih := sumL_step h2 hf' hl
      have hne : q.nm ≠ f.nm := fun e => h1 f hf' e
      simp only [sumL, List.filter_cons] at *
      cases hq : left (.string q.nm)
      · simpa [hq] using ih
      · simp [Lit.sameKey, hne, sumLen] at *
        omega

set_option maxRecDepth 100000 in
set_option maxHeartbeats 2000000 in
theorem size_any {S : Nat → Prop} {w : World} {d : Nat} {k : DS} (h : DkC S w d k) : Calls Try.prog 23 #[.pointer (some ⟨d, 0, none⟩)] w fun r w' => r = .returned (.int .i64 (sumLen k.rs : Int)) ∧ Below w.heap.size w w' := by
  obtain ⟨⟨c0, -⟩, -⟩ := h.cells
  have hm := h.hm
  have hmS := h.inn _ h.Sm
  have hall := h.all
  have HP : Hid (k.rs.Pairwise (fun r q => r.nm ≠ q.nm)) := h.rise.imp (fun hab => before_ne hab)
  have HF : Hid (∀ r ∈ k.rs, FileAt w r ∧ r.b < w.heap.size) := fun r hr => ⟨h.fs r hr, h.inn _ (h.Sf r hr).1⟩
  go_enter Try.func23, Try.ntmps23
  go_wp2_with (first
    | (at_range; refine wpList_range_own _ rfl _ 62 rfl 9 63 law9 Try.underlying62 ptrElem k.m k.rs.length _ rfl hm ?_; intro w1 hrg0 hg0 hs0)
    | go_in)
  go_frame
  go_loopw [3] (fun sv wr => ∃ (left : Lit → Bool) (cnt acc : Nat), wr.ranges Try.prog 9 ptrElem k.m w.heap.size k.rs.length (.map (k.rs.map Rw.ent)) left cnt ∧ w.grownBy wr none ∧ sv = .int .i64 (acc : Int) ∧ acc + sumL left k.rs = sumLen k.rs)
    (fun _ wr => wr.rangeLeft k.m w.heap.size)
  case atStart => exact ⟨_, _, 0, hrg0, hg0, rfl, by rw [Nat.zero_add]; exact sumL_all (fun r hr => by rw [has_ents, h.look hr]; rfl)⟩
  case round =>
    obtain ⟨left, cnt, acc, hrg, hgw, rfl, hsum⟩ := hrel
    have HS : Hid (acc + sumL left k.rs = sumLen k.rs) := hsum
    have hacc : acc ≤ 16777216 := by omega
    clear hsum
    go_wp2_with (first
      | (at_next; refine wpList_next_disk rfl _ rfl k.m w.heap.size k.rs.length k.rs left cnt rfl hrg ?_ ?_)
      | go_in)
    · intro _ hl0
      go_wp2
      go_ret
      refine ⟨?_, (Below.refl _ w).grown hgw (Nat.le_refl _) (fun k e => by cases e)⟩
      have := HS.out
      rw [sumL_none hl0] at this
      rw [← this]; rfl
    · intro f w2 cnt2 hf hlk hfl hleft hrg2 hlt hg2 hs2 hen
      have hgw2 := hgw.andThen hg2 (fun j hj => by cases hj; exact Or.inl (Nat.le_refl _))
      obtain ⟨hfa, hfb⟩ := HF.out f hf
      have hc : w2.cell? ⟨f.b, 0, none⟩ = some f.v := hgw2.cell hfa.cells.1.1 (by simp)
      have HS2 : Hid (acc + f.dat.length + sumL (fun z => left z && !z.sameKey (.string f.nm)) k.rs = sumLen k.rs) := by
        have := HS.out
        rw [sumL_step HP.out hf hleft] at this
        show acc + f.dat.length + _ = _
        omega
      have hacc2 : acc + f.dat.length ≤ 16777216 := by have := HS2.out; omega
      obtain ⟨av, capv, hv, -, -⟩ := hfa.own.shape
      rw [hv] at hc
      clear hs2 hfa hv hlk
      go_wp2
      go_roundw
      case rel => exact ⟨_, cnt2, acc + f.dat.length, hrg2, hgw2, by simp, HS2.out⟩
      case measure => rw [hrg2.left_eq, hrg.left_eq]; exact hlt

/-- A file is gone; if it was the one appended to last there is none. -/
def DS.drop (k : DS) (nm : List UInt8) : DS := { k with last := (match look nm k.rs with | some r => if k.last = some r.b then none else k.last | none => k.last), rs := delR nm k.rs }
theorem info79 : (Try.prog.info? 79).map (fun i => (i.zero, i.size, i.bytes)) = some (some (.agg #[.slice none 0 0, .int .i64 0]), 2, 32) := by kernel_rfl
theorem ptr_same (w : World) (b : Nat) : (binOp .eql 63 (.pointer (some ⟨b, 0, none⟩)) (.pointer (some ⟨b, 0, none⟩))).run Try.prog w = .ok (.bool true) w := by
  obtain ⟨i0, hi, hz0, hz1, hz2⟩ := info_parts info79
  exact run_eql_ptr_same w _ Try.underlying63 hi
theorem ptr_other {w : World} {r q : Rw} (hr : FileAt w r) (hq : FileAt w q) (hne : r.b ≠ q.b) : (binOp .eql 63 (.pointer (some ⟨r.b, 0, none⟩)) (.pointer (some ⟨q.b, 0, none⟩))).run Try.prog w = .ok (.bool false) w := by
  obtain ⟨i0, hi, hz0, hz1, hz2⟩ := info_parts info79
  exact run_eql_ptr_other w Try.underlying63 hi (by rw [hz1]; decide) (fun e => hne (congrArg Addr.block e)) hr.cell hq.cell
theorem look_none {nm : List UInt8} {rs : List Rw} (h : look nm rs = none) {r : Rw} (hr : r ∈ rs) : r.nm ≠ nm := by
  have := List.find?_eq_none.1 h r hr
  simpa using this
theorem DkC.gone {S : Nat → Prop} {w : World} {d : Nat} {k : DS} (h : DkC S w d k) {nm : List UInt8} {r q : Rw} (hf : Ytbjnhohfdpdcnaa.look nm k.rs = some r) (hq : q ∈ delR nm k.rs) : q.b ≠ r.b := fun e => by
  obtain ⟨hr, hn⟩ := look_some hf
  obtain ⟨hq1, hq2⟩ := mem_delR.1 hq
  have := apart_eq h.ap hr hq1 e
  exact hq2 (by rw [this, hn])
theorem DkC.drop_pd {S : Nat → Prop} {w : World} {d : Nat} {k : DS} (h : DkC S w d k) (nm : List UInt8) : (k.drop nm).pd = { k.pd with fs := delP nm k.pd.fs } := by
  have key : (delR nm k.rs).map (Rw.pf (k.drop nm).last) = (delR nm k.rs).map (Rw.pf k.last) := by
    refine List.map_congr_left fun q hq => ?_
    unfold DS.drop
    cases hf : Ytbjnhohfdpdcnaa.look nm k.rs with
    | none => rfl
    | some r =>
      simp only
      by_cases hl : k.last = some r.b
      · have hne := h.gone hf hq
        rw [if_pos hl, hl]
        unfold Rw.pf
        have e1 : (some r.b == some q.b) = false := by simp; exact fun e => hne e.symm
        rw [e1]; rfl
      · rw [if_neg hl]
  show PD.mk ((delR nm k.rs).map (Rw.pf (k.drop nm).last)) k.arm k.dn = PD.mk (delP nm (k.rs.map (Rw.pf k.last))) k.arm k.dn
  rw [key, del_pf]

theorem At.delM {S : Nat → Prop} {w0 w w' : World} {d n : Nat} {k : DS} {nm : List UInt8} (h : At S w0 w d k) (hm : w'.ownsMap Try.prog 9 ptrElem k.m n (.map ((delR nm k.rs).map Rw.ent))) (ht : w.mapTurned w' k.m) (hla : ∀ b, k.last = some b → ∃ r ∈ delR nm k.rs, r.b = b) :
    At S w0 w' d { k with rs := delR nm k.rs } := by
  have hsz := turned_size ht
  refine h.go ((turned_out ht).mono (fun i hi => by rw [hi]; exact h.dk.Sm)) ?_
  exact (h.dk.turnM (turned_out ht) hsz (delR nm k.rs) hm (fun r hr => ⟨h.dk.fs r (mem_delR.1 hr).1, h.dk.Sf r (mem_delR.1 hr).1⟩) (apart_delR h.dk.ap) hla (Nat.le_trans (len_delR _ _) h.dk.few) (Nat.le_trans (sum_delR _ _) h.dk.all)).mono (fun i hi => grew_mono (by omega) hi) (fun i hi => by have := h.dk.inn i (grew_mono (by omega) hi); omega)
theorem At.setD1 {S : Nat → Prop} {w0 w : World} {d : Nat} {k : DS} (h : At S w0 w d k) (last : Option Nat) (hla : ∀ b, last = some b → ∃ r ∈ k.rs, r.b = b) : At S w0 (w.setCell ⟨d, 1, none⟩ (ptrV last)) d { k with last := last } := by
  refine h.go (Out.set h.dk.Sd) ?_
  exact (h.dk.turnD (Out.set (X := (· = d)) rfl) last k.arm k.dn (heap_set h.dk.hd 1 _) hla h.dk.arm (by simp [World.setCell])).mono (fun i hi => grew_mono (by simp [World.setCell]) hi) (fun i hi => by have := h.dk.inn i (grew_mono (by simp [World.setCell]) hi); simpa [World.setCell] using this)

set_option maxRecDepth 100000 in
set_option maxHeartbeats 2000000 in
theorem drop_any {S : Nat → Prop} {w0 w : World} {d : Nat} {k : DS} (h : At S w0 w d k) (nm : List UInt8) (hn : nm.length ≤ maxLen) : Calls Try.prog 59 #[.pointer (some ⟨d, 0, none⟩), .string ⟨nm.toArray⟩] w fun r w' => r = .returned (.tuple #[]) ∧ At S w0 w' d (k.drop nm) ∧ w'.heap.size = w.heap.size := by
  obtain ⟨⟨c0, c1, c2, c3⟩, f1, f2, f3⟩ := h.dk.cells
  have hm := h.dk.hm
  cases hf : look nm k.rs with
  | none =>
    have e : k.drop nm = { k with rs := delR nm k.rs } := by unfold DS.drop; rw [hf]
    rw [e]
    have HA : Hid (∀ w', w'.ownsMap Try.prog 9 ptrElem k.m k.rs.length (.map ((delR nm k.rs).map Rw.ent)) → w.mapTurned w' k.m → At S w0 w' d { k with rs := delR nm k.rs }) := fun w' h1 h2 => h.delM h1 h2 (fun b hb => by
      obtain ⟨r, hr, hrb⟩ := h.dk.la b hb
      exact ⟨r, mem_delR.2 ⟨hr, look_none hf hr⟩, hrb⟩)
    clear e h
    go_enter Try.func59, Try.ntmps59
    go_wp2_with (first
      | (at_lookup; refine wpList_look_none rfl _ _ rfl _ _ _ rfl hm nm rfl hn hf ?_)
      | (at_delete; refine wpList_mapDel rfl _ _ rfl _ _ _ rfl hm nm rfl hn ?_; intro w1 h1 h2)
      | go_in)
    go_end0
    exact ⟨rfl, HA.out _ h1 h2, turned_size h2⟩
  | some r =>
    obtain ⟨hr, hrn⟩ := look_some hf
    cases hl : k.last with
    | none =>
      have e : k.drop nm = { k with rs := delR nm k.rs } := by unfold DS.drop; rw [hf]; simp [hl]
      rw [e]
      have HA : Hid (∀ w', w'.ownsMap Try.prog 9 ptrElem k.m k.rs.length (.map ((delR nm k.rs).map Rw.ent)) → w.mapTurned w' k.m → At S w0 w' d { k with rs := delR nm k.rs }) := fun w' h1 h2 => h.delM h1 h2 (fun b hb => by rw [hl] at hb; cases hb)
      rw [hl] at c1
      unfold ptrV at c1
      clear e h hr hrn hl
      go_enter Try.func59, Try.ntmps59
      go_wp2_with (first
        | (at_lookup; refine wpList_look_some rfl _ _ rfl _ _ _ rfl hm nm rfl hn r hf ?_)
        | (at_delete; refine wpList_mapDel rfl _ _ rfl _ _ _ rfl hm nm rfl hn ?_; intro w1 h1 h2)
        | go_in)
      go_end0
      exact ⟨rfl, HA.out _ h1 h2, turned_size h2⟩
    | some b =>
      by_cases hb : b = r.b
      · subst hb
        have e : k.drop nm = { k with last := none, rs := delR nm k.rs } := by unfold DS.drop; rw [hf]; simp [hl]
        rw [e]
        have h3 := h.setD1 none (by simp)
        have hm3 := h3.dk.hm
        have HA : Hid (∀ w', w'.ownsMap Try.prog 9 ptrElem k.m k.rs.length (.map ((delR nm k.rs).map Rw.ent)) → (w.setCell ⟨d, 1, none⟩ (ptrV none)).mapTurned w' k.m → At S w0 w' d { k with last := none, rs := delR nm k.rs }) := fun w' h1 h2 => h3.delM h1 h2 (by simp)
        have HZ : Hid ((w.setCell ⟨d, 1, none⟩ (ptrV none)).heap.size = w.heap.size) := size_set _ _ _
        rw [hl] at c1
        unfold ptrV at c1 hm3 HA HZ
        simp only at hm3
        have heq := ptr_same w r.b
        clear e h h3 hr hrn hl
        go_enter Try.func59, Try.ntmps59
        go_wp2_with (first
          | (at_lookup; refine wpList_look_some rfl _ _ rfl _ _ _ rfl hm nm rfl hn r hf ?_)
          | (at_delete; refine wpList_mapDel rfl _ _ rfl _ _ _ rfl hm3 nm rfl hn ?_; intro w1 h1 h2)
          | go_in)
        go_end0
        exact ⟨rfl, HA.out _ h1 h2, (turned_size h2).trans HZ.out⟩
      · have e : k.drop nm = { k with rs := delR nm k.rs } := by unfold DS.drop; rw [hf]; simp [hl, hb]
        rw [e]
        have HA : Hid (∀ w', w'.ownsMap Try.prog 9 ptrElem k.m k.rs.length (.map ((delR nm k.rs).map Rw.ent)) → w.mapTurned w' k.m → At S w0 w' d { k with rs := delR nm k.rs }) := fun w' h1 h2 => h.delM h1 h2 (fun b' hb' => by
          rw [hl] at hb'
          cases hb'
          obtain ⟨q, hq, hqb⟩ := h.dk.la b hl
          refine ⟨q, mem_delR.2 ⟨hq, fun e => hb ?_⟩, hqb⟩
          rw [← hqb, h.dk.nms hr hq (by rw [e, hrn])])
        rw [hl] at c1
        unfold ptrV at c1
        have hb2 : ¬ r.b = b := fun e => hb e.symm
        obtain ⟨q, hq, hqb⟩ := h.dk.la b hl
        have heq := ptr_other (h.dk.fs r hr) (h.dk.fs q hq) (by rw [hqb]; exact hb2)
        rw [hqb] at heq
        clear e h hr hrn hl hq hqb
        go_enter Try.func59, Try.ntmps59
        go_wp2_with (first
          | (at_lookup; refine wpList_look_some rfl _ _ rfl _ _ _ rfl hm nm rfl hn r hf ?_)
          | (at_delete; refine wpList_mapDel rfl _ _ rfl _ _ _ rfl hm nm rfl hn ?_; intro w1 h1 h2)
          | go_in)
        go_end0
        exact ⟨rfl, HA.out _ h1 h2, turned_size h2⟩

set_option maxRecDepth 100000 in
set_option maxHeartbeats 2000000 in
theorem remove_any {S : Nat → Prop} {w : World} {d : Nat} {k : DS} (h : DkC S w d k) (nm : List UInt8) (hn : nm.length ≤ maxLen) : Calls Try.prog 40 #[.pointer (some ⟨d, 0, none⟩), .string ⟨nm.toArray⟩] w fun r w' => Done S w d (doRemove k.pd nm) r w' := by
  obtain ⟨⟨c0, c1, c2, c3⟩, f1, f2, f3⟩ := h.cells
  have HX : Hid (doRemove k.pd nm = if k.dn then (11, k.pd) else if (look nm k.rs).isSome = false then (8, k.pd) else if k.fell then (11, k.pd.fail) else (0, { k.pd.fail with fs := delP nm k.pd.fs })) := by
    show doRemove k.pd nm = _
    unfold doRemove
    rw [look_pd, Option.isSome_map]; rfl
  cases hdn : k.dn with
  | true =>
    rw [hdn] at c3
    have HH : Hid (DkC S w d k) := h
    clear h
    go_enter Try.func40, Try.ntmps40
    go_wp2
    go_ret
    exact Done.mk (by rw [HX.out, hdn]; rfl) rfl (At.start HH.out) rfl
  | false =>
    rw [hdn] at c3
    have hh := has_any h nm hn
    cases hl : (look nm k.rs).isSome with
    | false =>
      rw [hl] at hh
      have HH : Hid (DkC S w d k) := h
      clear h
      go_enter Try.func40, Try.ntmps40
      go_wp2_with (go_at_call 46; refine hh.mono ?_; rintro e w1 ⟨rfl, rfl⟩)
      go_ret
      exact Done.mk (by rw [HX.out, hdn, hl]; rfl) rfl (At.start HH.out) rfl
    | true =>
      rw [hl] at hh
      have hfa := fails_any (At.start h)
      cases hfe : k.fell with
      | true =>
        rw [hfe] at hfa
        clear h
        go_enter Try.func40, Try.ntmps40
        go_wp2_with (first | (go_at_call 46; refine hh.mono ?_; rintro e w1 ⟨rfl, rfl⟩) | (go_at_call 56; refine hfa.mono ?_; rintro e w2 ⟨rfl, h2, hs2⟩))
        go_ret
        exact Done.mk (by rw [HX.out, hdn, hl, hfe]; rfl) rfl h2 (fail_pd k)
      | false =>
        rw [hfe] at hfa
        clear h
        go_enter Try.func40, Try.ntmps40
        go_wp2_with (first | (go_at_call 46; refine hh.mono ?_; rintro e w1 ⟨rfl, rfl⟩) | (go_at_call 56; refine hfa.mono ?_; rintro e w2 ⟨rfl, h2, hs2⟩; have hdr := drop_any h2 nm hn) | (go_at_call 59; refine hdr.mono ?_; rintro e w3 ⟨rfl, h3, hs3⟩))
        go_ret
        exact Done.mk (by rw [HX.out, hdn, hl, hfe]; rfl) rfl h3 (by rw [h2.dk.drop_pd, fail_pd, pd_fail_fs])

theorem Ow.len47 {N : Nat} {w : World} {v : Value} {l : List UInt8} (h : Ow N w v l) : ∃ a cap, v = .slice a l.length cap := by
  obtain ⟨a, cap, e, _⟩ := h.shape
  exact ⟨a, cap, e⟩

set_option maxRecDepth 100000 in
set_option maxHeartbeats 2000000 in
theorem sync_any {S : Nat → Prop} {w : World} {d : Nat} {k : DS} (h : DkC S w d k) (nm : List UInt8) (hn : nm.length ≤ maxLen) : Calls Try.prog 32 #[.pointer (some ⟨d, 0, none⟩), .string ⟨nm.toArray⟩] w fun r w' => Done S w d (doSync k.pd nm) r w' := by
  obtain ⟨⟨c0, c1, c2, c3⟩, f1, f2, f3⟩ := h.cells
  have hm := h.hm
  have HX : Hid (doSync k.pd nm = if k.dn then (11, k.pd) else if (look nm k.rs).isSome = false then (8, k.pd) else if k.fell then (11, k.pd.fail) else (0, { k.pd.fail with fs := k.pd.fs.map (syncP nm) })) := by
    show doSync k.pd nm = _
    unfold doSync
    rw [look_pd, Option.isSome_map]; rfl
  have HH : Hid (DkC S w d k) := h
  cases hf : look nm k.rs with
  | none =>
    clear h
    cases hdn : k.dn with
    | true =>
      rw [hdn] at c3
      go_enter Try.func32, Try.ntmps32
      go_wp2_with (at_lookup; refine wpList_look_none rfl _ _ rfl _ _ _ rfl hm nm rfl hn hf ?_)
      go_ret
      exact Done.mk (by rw [HX.out, hdn]; rfl) rfl (At.start HH.out) rfl
    | false =>
      rw [hdn] at c3
      go_enter Try.func32, Try.ntmps32
      go_wp2_with (at_lookup; refine wpList_look_none rfl _ _ rfl _ _ _ rfl hm nm rfl hn hf ?_)
      go_ret
      exact Done.mk (by rw [HX.out, hdn, hf]; rfl) rfl (At.start HH.out) rfl
  | some r =>
    obtain ⟨hr, hrn⟩ := look_some hf
    cases hdn : k.dn with
    | true =>
      rw [hdn] at c3
      clear h
      go_enter Try.func32, Try.ntmps32
      go_wp2_with (at_lookup; refine wpList_look_some rfl _ _ rfl _ _ _ rfl hm nm rfl hn r hf ?_)
      go_ret
      exact Done.mk (by rw [HX.out, hdn]; rfl) rfl (At.start HH.out) rfl
    | false =>
      rw [hdn] at c3
      have hfa := fails_any (At.start h)
      clear h
      cases hfe : k.fell with
      | true =>
        rw [hfe] at hfa
        go_enter Try.func32, Try.ntmps32
        go_wp2_with (first | (at_lookup; refine wpList_look_some rfl _ _ rfl _ _ _ rfl hm nm rfl hn r hf ?_) | (go_at_call 56; refine hfa.mono ?_; rintro e w2 ⟨rfl, h2, hs2⟩))
        go_ret
        exact Done.mk (by rw [HX.out, hdn, hf, hfe]; rfl) rfl h2 (fail_pd k)
      | false =>
        rw [hfe] at hfa
        go_enter Try.func32, Try.ntmps32
        go_wp2_with (first | (at_lookup; refine wpList_look_some rfl _ _ rfl _ _ _ rfl hm nm rfl hn r hf ?_) | (go_at_call 56; refine hfa.mono ?_; rintro e w2 ⟨rfl, h2, hs2⟩; have hr2 : r ∈ k.fail.rs := (by rw [fail_rs]; exact hr); have hF := h2.dk.fs r hr2; obtain ⟨⟨g0, g1⟩, g2, g3⟩ := hF.cells; obtain ⟨av, capv, hv⟩ := hF.own.len47; have HV : Hid (r.v = .slice av r.dat.length capv) := hv; rw [hv] at g0; clear hv))
        go_ret
        have h3 := h2.turnF1 (w' := w2.setCell ⟨r.b, 1, none⟩ (.int .i64 (r.dat.length : Int))) (r' := { r with syn := r.dat.length }) hr2 (Out.set rfl) (size_set _ _ _) (heap_set hF.cell 1 _) rfl rfl (fun g hg => hg) hF.own (Nat.le_refl _) (Nat.le_refl _)
        refine Done.mk (by rw [HX.out, hdn, hf, hfe]; rfl) rfl h3 ?_
        have e1 : (k.fail.rs.map (repl { r with syn := r.dat.length })).map (Rw.pf k.fail.last) = (k.fail.rs.map (Rw.pf k.fail.last)).map (syncP nm) := map_repl (r' := { r with syn := r.dat.length }) h2.dk.ap hr2 rfl k.fail.last k.fail.last (syncP nm) (by simp [syncP, Rw.pf, hrn]) (fun q hq hne => by
          have := h2.dk.nm_ne hr2 hq hne
          rw [hrn] at this
          simp [syncP, Rw.pf, this])
        have e2 : k.fail.pd.fs = k.pd.fs := by rw [fail_pd, pd_fail_fs]
        show PD.mk _ _ _ = _
        rw [e1]
        have e3 := fail_pd k
        rw [← e3, ← e2]; rfl

end Go.Proofs.Ytbjnhohfdpdcnaa
