/-
  Create, Cut, Rename, Append: what each does to a disk.
-/
import Derived.Test.YtbjnhohfdpdcnaaC2
namespace Go.Proofs.Ytbjnhohfdpdcnaa
open Go.RowKit

theorem At.alloc {S : Nat → Prop} {w0 w : World} {d : Nat} {k : DS} (h : At S w0 w d k) (o : Obj) : At S w0 (w.alloc o) d k := by
  have hO : Out (fun _ => False) w (w.alloc o) := Out.grown (World.grownBy_alloc w o none) (by simp)
  refine h.go (hO.mono (fun _ hf => hf.elim)) ?_
  refine (h.dk.out hO (fun _ _ hf => hf)).mono (fun i hi => grew_mono (by simp) hi) (fun i hi => ?_)
  have h1 := h.out.size
  rcases hi with hi | hi
  · have := h.dk.inn i (.inl hi); simp; omega
  · exact hi.2

/-- A new file. -/
theorem At.create {S : Nat → Prop} {w0 w w' : World} {d n : Nat} {k : DS} {nm : List UInt8} (h : At S w0 w d k) (hnm : nm.length ≤ 32) (hfew : k.rs.length < 256)
    (hm : w'.ownsMap Try.prog 9 ptrElem k.m n (.map ((insR ⟨nm, w.heap.size, .slice none 0 0, [], 0⟩ (delR nm k.rs)).map Rw.ent))) (hl : look nm k.rs = none) (ht : (w.alloc (.cells #[.slice none 0 0, .int .i64 0] 79)).mapTurned w' k.m) :
    At S w0 w' d { k with rs := insR ⟨nm, w.heap.size, .slice none 0 0, [], 0⟩ (delR nm k.rs) } := by
  have hsz := turned_size ht
  have h1 := h.alloc (.cells #[.slice none 0 0, .int .i64 0] 79)
  have hlt := h.out.size
  refine h1.go ((turned_out ht).mono (fun i hi => by rw [hi]; exact h1.dk.Sm)) ?_
  have hold : ∀ q ∈ delR nm k.rs, q ∈ k.rs := fun q hq => (mem_delR.1 hq).1
  have hdk := h1.dk.turnM (turned_out ht) hsz _ hm ?_ (apart_insR (apart_delR h.dk.ap) ?_) ?_ ?_ ?_
  · exact hdk.mono (fun i hi => grew_mono (by omega) hi) (fun i hi => by have := h1.dk.inn i (grew_mono (by omega) hi); omega)
  · intro r hr
    rcases mem_insR.1 hr with rfl | hr
    · exact ⟨⟨heap_alloc_new w _, Ow.nil _ _, Nat.le_refl _, hnm⟩, .inr ⟨hlt, by simp⟩, by simp [Value.ownBlock]⟩
    · exact ⟨h1.dk.fs r (hold r hr), h1.dk.Sf r (hold r hr)⟩
  · intro q hq
    have := h.dk.inn _ (h.dk.Sf q (hold q hq)).1
    exact ⟨fun e => by simp only at e; omega, by simp [Value.ownBlock]⟩
  · intro b hb
    obtain ⟨q, hq, hqb⟩ := h.dk.la b hb
    exact ⟨q, mem_insR.2 (.inr (mem_delR.2 ⟨hq, look_none hl hq⟩)), hqb⟩
  · rw [len_insR]
    have := len_delR nm k.rs
    omega
  · rw [sum_insR]
    have := sum_delR nm k.rs
    have := h.dk.all
    simp only [List.length_nil]
    omega
theorem create_pd {S : Nat → Prop} {w0 w : World} {d b : Nat} {k : DS} (h : At S w0 w d k) (hb : w.heap.size ≤ b) (nm : List UInt8) (v : Value) : ({ k with rs := insR ⟨nm, b, v, [], 0⟩ (delR nm k.rs) } : DS).pd = { k.pd with fs := insP ⟨nm, [], 0, false⟩ (delP nm k.pd.fs) } := by
  show PD.mk ((insR ⟨nm, b, v, [], 0⟩ (delR nm k.rs)).map (Rw.pf k.last)) _ _ = PD.mk (insP ⟨nm, [], 0, false⟩ (delP nm (k.rs.map (Rw.pf k.last)))) _ _
  rw [ins_pf, del_pf]
  have e : Rw.pf k.last ⟨nm, b, v, [], 0⟩ = ⟨nm, [], 0, false⟩ := by
    unfold Rw.pf
    have : (k.last == some b) = false := by
      cases hl : k.last with
      | none => rfl
      | some c =>
        obtain ⟨r, hr, hrb⟩ := h.dk.la c hl
        have := h.dk.inn _ (h.dk.Sf r hr).1
        simp; omega
    rw [this]
  rw [e]
  rfl

theorem isNm_len {nm : List UInt8} (h : isNm nm = true) : nm.length ≤ 32 := by
  simp [isNm] at h
  exact h.1.2

set_option maxRecDepth 100000 in
set_option maxHeartbeats 4000000 in
theorem create_any {S : Nat → Prop} {w : World} {d : Nat} {k : DS} (h : DkC S w d k) (nm : List UInt8) (hn : nm.length ≤ maxLen) : Calls Try.prog 19 #[.pointer (some ⟨d, 0, none⟩), .string ⟨nm.toArray⟩] w fun r w' => Done S w d (doCreate k.pd nm) r w' := by
  obtain ⟨⟨c0, c1, c2, c3⟩, f1, f2, f3⟩ := h.cells
  have HX : Hid (doCreate k.pd nm = if k.dn then (11, k.pd) else if isNm nm = false then (7, k.pd) else if (look nm k.rs).isSome then (9, k.pd) else if 256 ≤ k.rs.length then (10, k.pd) else if k.fell then (11, k.pd.fail) else (0, { k.pd.fail with fs := insP ⟨nm, [], 0, false⟩ (delP nm k.pd.fs) })) := by
    show doCreate k.pd nm = _
    unfold doCreate
    rw [look_pd, Option.isSome_map]
    have : k.pd.fs.length = k.rs.length := by simp [DS.pd]
    rw [this]; rfl
  have HH : Hid (DkC S w d k) := h
  cases hdn : k.dn with
  | true =>
    rw [hdn] at c3
    clear h
    go_enter Try.func19, Try.ntmps19
    go_wp2
    go_ret
    exact Done.mk (by rw [HX.out, hdn]; rfl) rfl (At.start HH.out) rfl
  | false =>
    rw [hdn] at c3
    have hin := isName_any nm w hn
    cases hnm : isNm nm with
    | false =>
      rw [hnm] at hin
      clear h
      go_enter Try.func19, Try.ntmps19
      go_wp2_with (go_at_call 55; refine hin.mono ?_; rintro e w1 ⟨rfl, rfl⟩)
      go_ret
      exact Done.mk (by rw [HX.out, hdn, hnm]; rfl) rfl (At.start HH.out) rfl
    | true =>
      rw [hnm] at hin
      have hh := has_any h nm hn
      cases hl : look nm k.rs with
      | some r =>
        rw [hl] at hh
        clear h
        go_enter Try.func19, Try.ntmps19
        go_wp2_with (first | (go_at_call 55; refine hin.mono ?_; rintro e w1 ⟨rfl, rfl⟩) | (go_at_call 46; refine hh.mono ?_; rintro e w1 ⟨rfl, rfl⟩))
        go_ret
        exact Done.mk (by rw [HX.out, hdn, hnm, hl]; rfl) rfl (At.start HH.out) rfl
      | none =>
        rw [hl] at hh
        have hm := h.hm
        have hfew := h.few
        by_cases hlen : 256 ≤ k.rs.length
        · clear h
          go_enter Try.func19, Try.ntmps19
          go_wp2_with (first | (go_at_call 55; refine hin.mono ?_; rintro e w1 ⟨rfl, rfl⟩) | (go_at_call 46; refine hh.mono ?_; rintro e w1 ⟨rfl, rfl⟩) | (at_len; refine wpList_mapLen rfl _ rfl _ _ _ rfl hm ?_))
          go_ret
          exact Done.mk (by rw [HX.out, hdn, hnm, hl, if_pos hlen]; rfl) rfl (At.start HH.out) rfl
        · have hfa := fails_any (At.start h)
          clear h
          cases hfe : k.fell with
          | true =>
            rw [hfe] at hfa
            go_enter Try.func19, Try.ntmps19
            go_wp2_with (first | (go_at_call 55; refine hin.mono ?_; rintro e w1 ⟨rfl, rfl⟩) | (go_at_call 46; refine hh.mono ?_; rintro e w1 ⟨rfl, rfl⟩) | (at_len; refine wpList_mapLen rfl _ rfl _ _ _ rfl hm ?_) | (go_at_call 56; refine hfa.mono ?_; rintro e w2 ⟨rfl, h2, hs2⟩))
            go_ret
            exact Done.mk (by rw [HX.out, hdn, hnm, hl, if_neg hlen, hfe]; rfl) rfl h2 (fail_pd k)
          | false =>
            rw [hfe] at hfa
            go_enter Try.func19, Try.ntmps19
            go_wp2_with (first | (go_at_call 55; refine hin.mono ?_; rintro e w1 ⟨rfl, rfl⟩) | (go_at_call 46; refine hh.mono ?_; rintro e w1 ⟨rfl, rfl⟩) | (at_len; refine wpList_mapLen rfl _ rfl _ _ _ rfl hm ?_) | (go_at_call 56; refine hfa.mono ?_; rintro e w2 ⟨rfl, h2, -⟩; obtain ⟨⟨d0, -⟩, -⟩ := h2.dk.cells; have hm2 := (h2.alloc (.cells #[.slice none 0 0, .int .i64 0] 79)).dk.hm) | (at_mapUpdate; refine wpList_mapPut rfl _ _ _ rfl _ _ _ rfl hm2 ⟨nm, w2.heap.size, .slice none 0 0, [], 0⟩ rfl hn rfl (by rw [fail_rs]; omega) ?_; intro w3 h3 ht3) | go_in)
            go_ret
            refine Done.mk (by rw [HX.out, hdn, hnm, hl, if_neg hlen, hfe]; rfl) rfl (h2.create (isNm_len hnm) (by rw [fail_rs]; omega) h3 (by rw [fail_rs]; exact hl) ht3) ?_
            rw [create_pd h2 (Nat.le_refl _), fail_pd, pd_fail_fs]

/-- A shorter slice of the same bytes. -/
theorem Ow.cut {N : Nat} {w : World} {a : Option Addr} {len cap : Nat} {l : List UInt8} (h : Ow N w (.slice a len cap) l) {n : Nat} (hn : n ≤ l.length) : Ow N w (.slice a n cap) (l.take n) := by
  unfold Ow at *
  have e : (l.take n).length = n := by simp; omega
  refine ⟨by simp, ?_⟩
  rcases h.2 with ⟨hv, h0⟩ | ⟨g, cap', cur, hv, hg, hb, h1, h2, h3, h4⟩
  · cases hv
    have : l = [] := List.length_eq_zero_iff.1 h0
    subst this
    have : n = 0 := by simpa using hn
    subst this
    exact .inl ⟨rfl, rfl⟩
  · cases hv
    refine .inr ⟨g, _, cur, by rw [e], hg, hb, by rw [e]; omega, h2, h3, ?_⟩
    simp only [Nat.mul_one] at h4 ⊢
    rw [e, List.map_take, ← h4, List.take_take, Nat.min_eq_left hn]

set_option maxRecDepth 100000 in
set_option maxHeartbeats 4000000 in
theorem cut_any {S : Nat → Prop} {w : World} {d : Nat} {k : DS} (h : DkC S w d k) (nm : List UInt8) (hn : nm.length ≤ maxLen) (n : Int) : Calls Try.prog 36 #[.pointer (some ⟨d, 0, none⟩), .string ⟨nm.toArray⟩, .int .i64 n] w fun r w' => Done S w d (doCut k.pd nm n) r w' := by
  obtain ⟨⟨c0, c1, c2, c3⟩, f1, f2, f3⟩ := h.cells
  have hm := h.hm
  have HH : Hid (DkC S w d k) := h
  cases hf : look nm k.rs with
  | none =>
    have HX : Hid (doCut k.pd nm n = if k.dn then (11, k.pd) else (8, k.pd)) := by
      show doCut k.pd nm n = _
      unfold doCut
      rw [look_pd, hf]; rfl
    clear h
    cases hdn : k.dn with
    | true =>
      rw [hdn] at c3
      go_enter Try.func36, Try.ntmps36
      go_wp2_with (at_lookup; refine wpList_look_none rfl _ _ rfl _ _ _ rfl hm nm rfl hn hf ?_)
      go_ret
      exact Done.mk (by rw [HX.out, hdn]; rfl) rfl (At.start HH.out) rfl
    | false =>
      rw [hdn] at c3
      go_enter Try.func36, Try.ntmps36
      go_wp2_with (at_lookup; refine wpList_look_none rfl _ _ rfl _ _ _ rfl hm nm rfl hn hf ?_)
      go_ret
      exact Done.mk (by rw [HX.out, hdn]; rfl) rfl (At.start HH.out) rfl
  | some r =>
    obtain ⟨hr, hrn⟩ := look_some hf
    have HX : Hid (doCut k.pd nm n = if k.dn then (11, k.pd) else if n < 0 ∨ (r.dat.length : Int) < n then (1, k.pd) else if k.fell then (11, k.pd.fail) else (0, { k.pd.fail with fs := k.pd.fs.map (cutP nm n.toNat) })) := by
      show doCut k.pd nm n = _
      unfold doCut
      rw [look_pd, hf]; rfl
    cases hdn : k.dn with
    | true =>
      rw [hdn] at c3
      clear h
      go_enter Try.func36, Try.ntmps36
      go_wp2_with (at_lookup; refine wpList_look_some rfl _ _ rfl _ _ _ rfl hm nm rfl hn r hf ?_)
      go_ret
      exact Done.mk (by rw [HX.out, hdn]; rfl) rfl (At.start HH.out) rfl
    | false =>
      rw [hdn] at c3
      have hfa := fails_any (At.start h)
      have hF0 := h.fs r hr
      obtain ⟨⟨e0, e1⟩, -⟩ := hF0.cells
      obtain ⟨av, capv, hv, hlc, hcm⟩ := hF0.own.shape
      have HV : Hid (r.v = .slice av r.dat.length capv) := hv
      unfold maxLen at hcm
      rw [hv] at e0
      clear h hv
      by_cases hneg : n < 0
      · clear hF0
        go_enter Try.func36, Try.ntmps36
        go_wp2_with (at_lookup; refine wpList_look_some rfl _ _ rfl _ _ _ rfl hm nm rfl hn r hf ?_)
        go_ret
        exact Done.mk (by rw [HX.out, hdn, if_pos (Or.inl hneg)]; rfl) rfl (At.start HH.out) rfl
      by_cases hbig : (r.dat.length : Int) < n
      · clear hF0
        have hneg' : decide (n < 0) = false := by simp; omega
        go_enter Try.func36, Try.ntmps36
        go_wp2_with (at_lookup; refine wpList_look_some rfl _ _ rfl _ _ _ rfl hm nm rfl hn r hf ?_)
        go_ret
        exact Done.mk (by rw [HX.out, hdn, if_pos (Or.inr hbig)]; rfl) rfl (At.start HH.out) rfl
      obtain ⟨m, rfl⟩ : ∃ m : Nat, n = (m : Int) := ⟨n.toNat, by omega⟩
      have hml : m ≤ r.dat.length := by omega
      have HC : Hid (¬ ((m : Int) < 0 ∨ (r.dat.length : Int) < (m : Int))) := by show ¬ _; omega
      clear hneg hbig hF0
      cases hfe : k.fell with
      | true =>
        rw [hfe] at hfa
        go_enter Try.func36, Try.ntmps36
        go_wp2_with (first | (at_lookup; refine wpList_look_some rfl _ _ rfl _ _ _ rfl hm nm rfl hn r hf ?_) | (go_at_call 56; refine hfa.mono ?_; rintro e w2 ⟨rfl, h2, hs2⟩))
        go_ret
        exact Done.mk (by rw [HX.out, hdn, if_neg HC.out, hfe]; rfl) rfl h2 (fail_pd k)
      | false =>
        rw [hfe] at hfa
        by_cases hms : m < r.syn
        · skip
          go_enter Try.func36, Try.ntmps36
          go_wp2_with (first | (at_lookup; refine wpList_look_some rfl _ _ rfl _ _ _ rfl hm nm rfl hn r hf ?_) | (go_at_call 56; refine hfa.mono ?_; rintro e w2 ⟨rfl, h2, -⟩; have hr2 : r ∈ k.fail.rs := (by rw [fail_rs]; exact hr); have hF := h2.dk.fs r hr2; obtain ⟨⟨g0, g1⟩, g2, g3⟩ := hF.cells; rw [HV.out] at g0))
          go_ret
          have hown := hF.own
          rw [HV.out] at hown
          have h3 := h2.turnF1 (w' := (w2.setCell ⟨r.b, 0, none⟩ (.slice av m capv)).setCell ⟨r.b, 1, none⟩ (.int .i64 ((m : Nat) : Int))) (r' := { r with v := .slice av m capv, dat := r.dat.take m, syn := m }) hr2 ((Out.set (X := (· = r.b)) rfl).trans (Out.set (X := (· = r.b)) rfl) (fun i hi _ => hi)) ((size_set _ _ _).trans (size_set _ _ _)) (heap_set (heap_set hF.cell 0 _) 1 _) rfl rfl (fun g hg => by rw [HV.out]; cases av <;> exact hg) (hown.cut hml) (by have := hF.syn; simp; omega) (by simp; omega)
          refine Done.mk (by rw [HX.out, hdn, if_neg HC.out, hfe]; rfl) rfl h3 ?_
          have e1 : (k.fail.rs.map (repl { r with v := .slice av m capv, dat := r.dat.take m, syn := m })).map (Rw.pf k.fail.last) = (k.fail.rs.map (Rw.pf k.fail.last)).map (cutP nm m) := map_repl (r' := { r with v := .slice av m capv, dat := r.dat.take m, syn := m }) h2.dk.ap hr2 rfl k.fail.last k.fail.last (cutP nm m) (by simp [cutP, Rw.pf, hrn]; omega) (fun q hq hne => by
            have := h2.dk.nm_ne hr2 hq hne
            rw [hrn] at this
            simp [cutP, Rw.pf, this])
          have e2 : k.fail.pd.fs = k.pd.fs := by rw [fail_pd, pd_fail_fs]
          show PD.mk _ _ _ = _
          rw [e1]
          have e3 := fail_pd k
          rw [← e3, ← e2]; rfl
        · skip
          go_enter Try.func36, Try.ntmps36
          go_wp2_with (first | (at_lookup; refine wpList_look_some rfl _ _ rfl _ _ _ rfl hm nm rfl hn r hf ?_) | (go_at_call 56; refine hfa.mono ?_; rintro e w2 ⟨rfl, h2, -⟩; have hr2 : r ∈ k.fail.rs := (by rw [fail_rs]; exact hr); have hF := h2.dk.fs r hr2; obtain ⟨⟨g0, g1⟩, g2, g3⟩ := hF.cells; rw [HV.out] at g0))
          go_ret
          have hown := hF.own
          rw [HV.out] at hown
          have h3 := h2.turnF1 (w' := (w2.setCell ⟨r.b, 0, none⟩ (.slice av m capv)).setCell ⟨r.b, 1, none⟩ (.int .i64 ((r.syn : Nat) : Int))) (r' := { r with v := .slice av m capv, dat := r.dat.take m, syn := r.syn }) hr2 ((Out.set (X := (· = r.b)) rfl).trans (Out.set (X := (· = r.b)) rfl) (fun i hi _ => hi)) ((size_set _ _ _).trans (size_set _ _ _)) (heap_set (heap_set hF.cell 0 _) 1 _) rfl rfl (fun g hg => by rw [HV.out]; cases av <;> exact hg) (hown.cut hml) (by have := hF.syn; simp; omega) (by simp; omega)
          refine Done.mk (by rw [HX.out, hdn, if_neg HC.out, hfe]; rfl) rfl h3 ?_
          have e1 : (k.fail.rs.map (repl { r with v := .slice av m capv, dat := r.dat.take m, syn := r.syn })).map (Rw.pf k.fail.last) = (k.fail.rs.map (Rw.pf k.fail.last)).map (cutP nm m) := map_repl (r' := { r with v := .slice av m capv, dat := r.dat.take m, syn := r.syn }) h2.dk.ap hr2 rfl k.fail.last k.fail.last (cutP nm m) (by simp [cutP, Rw.pf, hrn]; omega) (fun q hq hne => by
            have := h2.dk.nm_ne hr2 hq hne
            rw [hrn] at this
            simp [cutP, Rw.pf, this])
          have e2 : k.fail.pd.fs = k.pd.fs := by rw [fail_pd, pd_fail_fs]
          show PD.mk _ _ _ = _
          rw [e1]
          have e3 := fail_pd k
          rw [← e3, ← e2]; rfl

/-- A file is called otherwise. -/
theorem At.renamed {S : Nat → Prop} {w0 w w1 w' : World} {d n : Nat} {k : DS} {nm to : List UInt8} {r : Rw} (h : At S w0 w d k) (hto : to.length ≤ 32) (hr : r ∈ k.rs) (hrn : r.nm = nm) (hno : ∀ q ∈ k.rs, q.nm ≠ to)
    (hm : w'.ownsMap Try.prog 9 ptrElem k.m n (.map ((insR { r with nm := to } (delR to (delR nm k.rs))).map Rw.ent))) (ht : w.mapTurned w1 k.m) (ht' : w1.mapTurned w' k.m) :
    At S w0 w' d { k with rs := insR { r with nm := to } (delR to (delR nm k.rs)) } := by
  have hsz : w'.heap.size = w.heap.size := (turned_size ht').trans (turned_size ht)
  have hO : Out (· = k.m) w w' := (turned_out ht).trans (turned_out ht') (fun i hi _ => hi)
  refine h.go (hO.mono (fun i hi => by rw [hi]; exact h.dk.Sm)) ?_
  have hold : ∀ q ∈ delR to (delR nm k.rs), q ∈ k.rs ∧ q.nm ≠ nm := fun q hq => mem_delR.1 (mem_delR.1 hq).1
  have hdk := h.dk.turnM hO hsz _ hm ?_ (apart_insR (apart_delR (apart_delR h.dk.ap)) ?_) ?_ ?_ ?_
  · exact hdk.mono (fun i hi => grew_mono (by omega) hi) (fun i hi => by have := h.dk.inn i (grew_mono (by omega) hi); omega)
  · intro q hq
    rcases mem_insR.1 hq with rfl | hq
    · have hf := h.dk.fs r hr
      exact ⟨⟨hf.cell, hf.own, hf.syn, hto⟩, h.dk.Sf r hr⟩
    · exact ⟨h.dk.fs q (hold q hq).1, h.dk.Sf q (hold q hq).1⟩
  · intro q hq
    obtain ⟨h1, h2⟩ := hold q hq
    have := (apart_any h.dk.ap r hr q h1).resolve_left (fun e => h2 (by rw [← e, hrn]))
    exact this
  · intro b hb
    obtain ⟨q, hq, hqb⟩ := h.dk.la b hb
    by_cases e : q.nm = nm
    · have : q = r := h.dk.nms hr hq (by rw [e, hrn])
      exact ⟨_, mem_insR.2 (.inl rfl), by rw [← hqb, this]⟩
    · exact ⟨q, mem_insR.2 (.inr (mem_delR.2 ⟨mem_delR.2 ⟨hq, e⟩, hno q hq⟩)), hqb⟩
  · rw [len_insR]
    have h1 := len_delR to (delR nm k.rs)
    have h2 := len_del_lt hr
    rw [hrn] at h2
    have := h.dk.few
    omega
  · rw [sum_insR]
    have h1 := sum_delR to (delR nm k.rs)
    have h2 := sum_del_le hr
    rw [hrn] at h2
    have := h.dk.all
    simp only
    omega

theorem look_drop {nm to : List UInt8} {rs : List Rw} {r : Rw} (h : look nm rs = some r) (hne : nm ≠ to) : r ∈ delR to rs := by
  obtain ⟨h1, h2⟩ := look_some h
  exact mem_delR.2 ⟨h1, by rw [h2]; exact hne⟩

set_option maxRecDepth 100000 in
set_option maxHeartbeats 4000000 in
theorem rename_any {S : Nat → Prop} {w : World} {d : Nat} {k : DS} (h : DkC S w d k) (nm to : List UInt8) (hn : nm.length ≤ maxLen) (ht : to.length ≤ maxLen) : Calls Try.prog 38 #[.pointer (some ⟨d, 0, none⟩), .string ⟨nm.toArray⟩, .string ⟨to.toArray⟩] w fun r w' => Done S w d (doRename k.pd nm to) r w' := by
  obtain ⟨⟨c0, c1, c2, c3⟩, f1, f2, f3⟩ := h.cells
  have hm := h.hm
  have HH : Hid (DkC S w d k) := h
  cases hf : look nm k.rs with
  | none =>
    have HX : Hid (doRename k.pd nm to = if k.dn then (11, k.pd) else (8, k.pd)) := by
      show doRename k.pd nm to = _
      unfold doRename
      rw [look_pd, hf]; rfl
    clear h
    cases hdn : k.dn with
    | true =>
      rw [hdn] at c3
      go_enter Try.func38, Try.ntmps38
      go_wp2_with (at_lookup; refine wpList_look_none rfl _ _ rfl _ _ _ rfl hm nm rfl hn hf ?_)
      go_ret
      exact Done.mk (by rw [HX.out, hdn]; rfl) rfl (At.start HH.out) rfl
    | false =>
      rw [hdn] at c3
      go_enter Try.func38, Try.ntmps38
      go_wp2_with (at_lookup; refine wpList_look_none rfl _ _ rfl _ _ _ rfl hm nm rfl hn hf ?_)
      go_ret
      exact Done.mk (by rw [HX.out, hdn]; rfl) rfl (At.start HH.out) rfl
  | some r =>
    obtain ⟨hr, hrn⟩ := look_some hf
    have HX : Hid (doRename k.pd nm to = if k.dn then (11, k.pd) else if isNm to = false then (7, k.pd) else if k.fell then (11, k.pd.fail) else if nm = to then (0, k.pd.fail) else (0, { k.pd.fail with fs := insP { Rw.pf k.last r with nm := to } (delP to (delP nm (delP to k.pd.fs))) })) := by
      show doRename k.pd nm to = _
      unfold doRename
      rw [look_pd, hf]; rfl
    cases hdn : k.dn with
    | true =>
      rw [hdn] at c3
      clear h
      go_enter Try.func38, Try.ntmps38
      go_wp2_with (at_lookup; refine wpList_look_some rfl _ _ rfl _ _ _ rfl hm nm rfl hn r hf ?_)
      go_ret
      exact Done.mk (by rw [HX.out, hdn]; rfl) rfl (At.start HH.out) rfl
    | false =>
      rw [hdn] at c3
      have hfa := fails_any (At.start h)
      have hin := isName_any to w ht
      clear h
      cases hto : isNm to with
      | false =>
        rw [hto] at hin
        go_enter Try.func38, Try.ntmps38
        go_wp2_with (first | (at_lookup; refine wpList_look_some rfl _ _ rfl _ _ _ rfl hm nm rfl hn r hf ?_) | (go_at_call 55; refine hin.mono ?_; rintro e w1 ⟨rfl, rfl⟩))
        go_ret
        exact Done.mk (by rw [HX.out, hdn, hto]; rfl) rfl (At.start HH.out) rfl
      | true =>
        rw [hto] at hin
        cases hfe : k.fell with
        | true =>
          rw [hfe] at hfa
          go_enter Try.func38, Try.ntmps38
          go_wp2_with (first | (at_lookup; refine wpList_look_some rfl _ _ rfl _ _ _ rfl hm nm rfl hn r hf ?_) | (go_at_call 55; refine hin.mono ?_; rintro e w1 ⟨rfl, rfl⟩) | (go_at_call 56; refine hfa.mono ?_; rintro e w2 ⟨rfl, h2, -⟩))
          go_ret
          exact Done.mk (by rw [HX.out, hdn, hto, hfe]; rfl) rfl h2 (fail_pd k)
        | false =>
          rw [hfe] at hfa
          by_cases hsame : nm = to
          · subst hsame
            go_enter Try.func38, Try.ntmps38
            go_wp2_with (first | (at_lookup; refine wpList_look_some rfl _ _ rfl _ _ _ rfl hm nm rfl hn r hf ?_) | (go_at_call 55; refine hin.mono ?_; rintro e w1 ⟨rfl, rfl⟩) | (go_at_call 56; refine hfa.mono ?_; rintro e w2 ⟨rfl, h2, -⟩))
            go_ret
            exact Done.mk (by rw [HX.out, hdn, hto, hfe]; simp) rfl h2 (fail_pd k)
          · have hne : (nm == to) = false := by simpa using hsame
            go_enter Try.func38, Try.ntmps38
            go_wp2_with (first | (at_lookup; refine wpList_look_some rfl _ _ rfl _ _ _ rfl hm nm rfl hn r hf ?_) | (go_at_call 55; refine hin.mono ?_; rintro e w1 ⟨rfl, rfl⟩) | (go_at_call 56; refine hfa.mono ?_; rintro e w2 ⟨rfl, h2, -⟩; have hdr := drop_any h2 to ht) | (go_at_call 59; refine hdr.mono ?_; rintro e w3 ⟨rfl, h3, -⟩; obtain ⟨⟨d0, -⟩, -⟩ := h3.dk.cells; have hm3 := h3.dk.hm) | (at_delete; refine wpList_mapDel rfl _ _ rfl _ _ _ rfl hm3 nm rfl hn ?_; intro w4 hm4 ht4; have d4 := (World.cell?_of_block (a := ⟨d, 0, none⟩) ((turned_out ht4).block d (h3.dk.inn _ h3.dk.Sd) (fun e => h3.dk.ne_m e.symm))).trans d0) | (at_mapUpdate; refine wpList_mapPut rfl _ _ _ rfl _ _ _ rfl hm4 { r with nm := to } rfl ht rfl (Nat.le_trans h3.dk.few (by omega)) ?_; intro w5 hm5 ht5) | go_in)
            go_ret
            have hrs : k.fail.rs = k.rs := fail_rs k
            have hr3 : r ∈ (k.fail.drop to).rs := by show r ∈ delR to k.fail.rs; rw [hrs]; exact look_drop hf hsame
            have h5 := h3.renamed (isNm_len hto) hr3 hrn (fun q hq => (mem_delR.1 hq).2) hm5 ht4 ht5
            refine Done.mk (by rw [HX.out, hdn, hto, hfe]; simp only [if_neg hsame]; rfl) rfl h5 ?_
            have e3 := h2.dk.drop_pd to
            rw [fail_pd] at e3
            have e4 : (delR to k.fail.rs).map (Rw.pf (k.fail.drop to).last) = delP to k.pd.fs := by
              have := congrArg PD.fs e3
              rw [pd_fail_fs] at this
              exact this
            have e5 : (k.fail.drop to).arm = k.pd.fail.arm := congrArg PD.arm e3
            have e6 : (k.fail.drop to).dn = k.pd.fail.dn := congrArg PD.dn e3
            have e7 : Rw.pf (k.fail.drop to).last { r with nm := to } = { Rw.pf k.last r with nm := to } := by
              have : Rw.pf (k.fail.drop to).last r = Rw.pf k.last r := by
                have hx : Rw.pf (k.fail.drop to).last r ∈ delP to k.pd.fs := by rw [← e4]; exact List.mem_map_of_mem (by exact hr3)
                unfold DS.drop
                rw [fail_last]
                cases hq : look to k.fail.rs with
                | none => rfl
                | some q =>
                  simp only
                  by_cases hl : k.last = some q.b
                  · have hgo := h2.dk.gone hq (q := r) hr3
                    rw [if_pos hl, hl]
                    unfold Rw.pf
                    have e1 : (some q.b == some r.b) = false := by simp; exact fun e => hgo e.symm
                    rw [e1]; rfl
                  · rw [if_neg hl]
              unfold Rw.pf at this ⊢
              simp only [PF.mk.injEq] at this ⊢
              exact ⟨trivial, trivial, trivial, this.2.2.2⟩
            show PD.mk ((insR { r with nm := to } (delR to (delR nm (delR to k.fail.rs)))).map (Rw.pf (k.fail.drop to).last)) (k.fail.drop to).arm (k.fail.drop to).dn = _
            rw [ins_pf, del_pf, del_pf, e4, e5, e6, e7]

end Go.Proofs.Ytbjnhohfdpdcnaa
