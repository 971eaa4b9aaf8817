/-
  Append: what it does to a disk.
-/
import Derived.Test.YtbjnhohfdpdcnaaC3
import Derived.Deep.RegionLaw
namespace Go.Proofs.Ytbjnhohfdpdcnaa
open Go.RowKit

/-- v is a slice of bytes that reads l, in a block outside S. -/
def SlX (S : Nat → Prop) (W : World) (v : Value) (l : List UInt8) : Prop :=
  ∃ (a : Option Addr) (cap : Nat), v = .slice a l.length cap ∧ l.length ≤ cap ∧ cap ≤ maxLen ∧
    (l = [] ∨ ∃ b off, a = some ⟨b, off, none⟩ ∧ ¬ S b ∧ b < W.heap.size ∧ ∀ i, i < l.length → W.cell? ⟨b, off + i, none⟩ = some (encB (l[i]?.getD 0)))
theorem SlX.out {S : Nat → Prop} {w w' : World} {v : Value} {l : List UInt8} (h : SlX S w v l) (hO : Out S w w') : SlX S w' v l := by
  obtain ⟨a, cap, rfl, h1, h2, h3⟩ := h
  refine ⟨a, cap, rfl, h1, h2, h3.imp id ?_⟩
  rintro ⟨b, off, ha, hb, hlt, hc⟩
  exact ⟨b, off, ha, hb, Nat.lt_of_lt_of_le hlt hO.size, fun i hi => (World.cell?_of_block (a := ⟨b, off + i, none⟩) (hO.block b hlt hb)).trans (hc i hi)⟩
theorem SlX.sl {S : Nat → Prop} {w : World} {v : Value} {l : List UInt8} (h : SlX S w v l) : Sl w.heap.size w v l := by
  obtain ⟨a, cap, rfl, h1, h2, h3⟩ := h
  refine ⟨a, cap, rfl, h1, h2, h3.imp id ?_⟩
  rintro ⟨b, off, ha, hb, hlt, hc⟩
  exact ⟨b, off, ha, hlt, hc⟩
theorem Sl.slx {S : Nat → Prop} {M : Nat} {w : World} {v : Value} {l : List UInt8} (h : Sl M w v l) (hM : M ≤ w.heap.size) (hS : ∀ i, S i → M ≤ i) : SlX S w v l := by
  obtain ⟨a, cap, rfl, h1, h2, h3⟩ := h
  refine ⟨a, cap, rfl, h1, h2, h3.imp id ?_⟩
  rintro ⟨b, off, ha, hb, hc⟩
  exact ⟨b, off, ha, fun hs => by have := hS b hs; omega, by omega, hc⟩
theorem Sl.front {N : Nat} {w : World} {a : Option Addr} {cap : Nat} {l : List UInt8} (h : Sl N w (.slice a l.length cap) l) (j : Nat) (hj : j ≤ l.length) : Sl N w (.slice a j cap) (l.take j) := by
  obtain ⟨a1, cap1, e, h1, h2, h3⟩ := h
  cases e
  have hl : (l.take j).length = j := by simp; omega
  refine ⟨a, cap, by rw [hl], by omega, h2, ?_⟩
  by_cases hz : j = 0
  · left; subst hz; simp
  · right
    obtain ⟨b, off, rfl, hb, h4⟩ := h3.resolve_left (by rintro rfl; simp at hj; omega)
    refine ⟨b, off, rfl, hb, fun i hi => ?_⟩
    rw [hl] at hi
    rw [h4 i (by omega), List.getElem?_take_of_lt hi]

theorem step_append_ow {ops : Array Oper} {o : Oper} {a : Act} {w : World} {K : Act → World → Prop} {Q : Exit → Act → World → Prop} {E : Prop}
    (hg : o.guard = none) (s x : Operand) (hop : o.op = Op.call { callee := Callee.builtin Builtin.append, args := #[s, x], argTypes := #[32, 32] })
    (N M : Nat) (v xv : Value) (l m : List UInt8) (hs : a.eval s = v) (hv : Ow N w v l) (hx : a.eval x = xv) (hsl : Sl M w xv m) (hlen : l.length + m.length ≤ 1099511627776) (hN : N ≤ w.heap.size)
    (hK : ∀ v' w', Ow N w' v' (l ++ m) → w.grownBy w' v.ownBlock → (v'.ownBlock = v.ownBlock ∨ v'.ownBlock = some w.heap.size) → K (a.put o.dst v') w') :
    if Region.wanted o (yielded ops a.tmps) = true then Oper.wp Try.prog o a w K Q else E := by
  have hw : Region.wanted o (yielded ops a.tmps) = true := by simp [Region.wanted, hg]
  rw [if_pos hw]
  obtain ⟨v', w', hr, h2, h3, h4⟩ := run_append_ow o.type w N M v xv l m hv hsl hlen hN
  unfold Oper.wp
  simp [execOp, hop, resolve, invoke, builtin, hs, hx, hr, Result.andThen]
  exact hK v' w' h2 h3 h4

theorem At.below {S : Nat → Prop} {w0 w w' : World} {d : Nat} {k : DS} (h : At S w0 w d k) (hB : Below w.heap.size w w') : At S w0 w' d k := by
  have hO : Out (fun _ => False) w w' := Out.of_below hB
  refine h.go (hO.mono (fun _ hf => hf.elim)) ?_
  refine (h.dk.out hO (fun _ _ hf => hf)).mono (fun i hi => grew_mono hB.size hi) (fun i hi => ?_)
  have h1 := h.out.size
  have h2 := hB.size
  rcases hi with hi | hi
  · have := h.dk.inn i (.inl hi); omega
  · exact hi.2

/-- Bytes are behind a file's. -/
theorem At.appended {S : Nat → Prop} {w0 w w1 : World} {d : Nat} {k : DS} (h : At S w0 w d k) {r : Rw} (hr : r ∈ k.rs) {v' : Value} {l' : List UInt8} (hO : Ow 0 w1 v' l') (hg : w.grownBy w1 r.v.ownBlock) (hv : v'.ownBlock = r.v.ownBlock ∨ v'.ownBlock = some w.heap.size)
    (hsyn : r.syn ≤ l'.length) (hsum : sumLen k.rs + l'.length ≤ 16777216 + r.dat.length) :
    At S w0 (w1.setCell ⟨r.b, 0, none⟩ v') d { k with rs := k.rs.map (repl { r with v := v', dat := l' }) } ∧ (w1.heap[r.b]? = some (.cells #[r.v, .int .i64 (r.syn : Int)] 79 (0, 0))) := by
  have hF := h.dk.fs r hr
  have hS := h.dk.Sf r hr
  have hsz := hg.size
  have hcell : w1.heap[r.b]? = some (.cells #[r.v, .int .i64 (r.syn : Int)] 79 (0, 0)) := (hg.block r.b (h.dk.inn _ hS.1) (fun e => hF.ne2 hF.cell (by simp) _ e.symm rfl)).trans hF.cell
  refine ⟨?_, hcell⟩
  have hO1 : Out (fun i => i = r.b ∨ r.v.ownBlock = some i) w (w1.setCell ⟨r.b, 0, none⟩ v') := (Out.grown hg (fun j hj => .inr hj)).trans (Out.set (X := fun i => i = r.b ∨ r.v.ownBlock = some i) (.inl rfl)) (fun i hi _ => hi)
  have hT : ∀ i, grew S w0 w i → grew S w0 (w1.setCell ⟨r.b, 0, none⟩ v') i := fun i hi => grew_mono (by rw [size_set]; exact hsz) hi
  have hlt : ∀ g, v'.ownBlock = some g → g < w1.heap.size := fun g hgo => (World.ownsRow.lt hO g hgo).2
  refine h.go (hO1.mono (fun i hi => hi.elim (fun e => by rw [e]; exact hS.1) (fun e => hS.2 i e))) ?_
  refine h.dk.turnF hr hO1 ⟨heap_set hcell 0 v', hO.out (Out.set (X := (· = r.b)) rfl) (fun g hgo e => ?_), hsyn, hF.nm⟩ rfl rfl (fun g hgo => ?_) ?_ hT (fun g hgo => ?_) (fun i hi => ?_)
  · subst e
    rcases hO.2 with ⟨hv0, _⟩ | ⟨g', cap, cur, hv0, _, hb, _⟩
    · rw [hv0] at hgo; simp [Value.ownBlock] at hgo
    · rw [hv0] at hgo
      simp [Value.ownBlock] at hgo
      subst hgo
      rw [hcell] at hb
      simp at hb
  · rcases hv with e | e
    · exact .inl (e ▸ hgo)
    · simp only at hgo
      rw [e] at hgo; cases hgo; exact .inr (Nat.le_refl _)
  · have := sum_repl (r' := { r with v := v', dat := l' }) h.dk.ap hr rfl
    simp only at this
    omega
  · rcases hv with e | e
    · exact hT _ (hS.2 g (e ▸ hgo))
    · have h1 := hlt g hgo
      simp only at hgo
      rw [e] at hgo; cases hgo
      exact .inr ⟨h.out.size, by rw [size_set]; exact h1⟩
  · rw [size_set]
    rcases hi with hi | hi
    · have := h.dk.inn i (.inl hi); omega
    · have := hi.2; rw [size_set] at this; exact this

theorem app_pd {S : Nat → Prop} {w0 w : World} {d : Nat} {k : DS} (h : At S w0 w d k) {r : Rw} (hr : r ∈ k.rs) {nm : List UInt8} (hrn : r.nm = nm) {k0 : DS} (hk : k.rs = k0.rs) (hl : k.last = some r.b) (v' : Value) (l : List UInt8) :
    (k.rs.map (repl { r with v := v', dat := r.dat ++ l })).map (Rw.pf k.last) = k0.pd.fs.map (appP nm l) := by
  show _ = (k0.rs.map (Rw.pf k0.last)).map (appP nm l)
  rw [← hk]
  refine map_repl (r' := { r with v := v', dat := r.dat ++ l }) h.dk.ap hr rfl k0.last k.last (appP nm l) ?_ (fun q hq hne => ?_)
  · simp [appP, Rw.pf, hrn, hl]
  · have := h.dk.nm_ne hr hq hne
    rw [hrn] at this
    have e : (k.last == some q.b) = false := by rw [hl]; simp; exact fun e => hne e.symm
    simp [appP, Rw.pf, this, e]

set_option maxRecDepth 100000 in
set_option maxHeartbeats 4000000 in
theorem append_any {S : Nat → Prop} {w : World} {d : Nat} {k : DS} (h : DkC S w d k) (nm : List UInt8) (hn : nm.length ≤ maxLen) (a : Option Addr) (cap : Nat) (l : List UInt8) (hx : SlX S w (.slice a l.length cap) l) : Calls Try.prog 21 #[.pointer (some ⟨d, 0, none⟩), .string ⟨nm.toArray⟩, .slice a l.length cap] w fun r w' => Done S w d (doAppend k.pd nm l) r w' := by
  obtain ⟨⟨c0, c1, c2, c3⟩, f1, f2, f3⟩ := h.cells
  have hm := h.hm
  have HX : Hid (doAppend k.pd nm l = if k.dn then (11, k.pd) else if (look nm k.rs).isSome = false then (8, k.pd) else if 16777216 < l.length + sumLen k.rs then (10, k.pd) else if k.fell then (11, { k.pd.fail with fs := k.pd.fs.map (appP nm (l.take (l.length / 2))) }) else (0, { k.pd.fail with fs := k.pd.fs.map (appP nm l) })) := by
    show doAppend k.pd nm l = _
    unfold doAppend
    have : sumP k.pd.fs = sumLen k.rs := sum_pf _ _
    rw [look_pd, Option.isSome_map, this]; rfl
  have HH : Hid (DkC S w d k) := h
  have hlm : l.length ≤ 9223372036854775807 := by
    obtain ⟨a1, cap1, e, q1, q2, _⟩ := hx
    unfold maxLen at q2
    omega
  have hcm : l.length ≤ cap ∧ cap ≤ 9223372036854775807 := by
    obtain ⟨a1, cap1, e, q1, q2, _⟩ := hx
    cases e
    unfold maxLen at q2
    omega
  obtain ⟨hcl, hcm⟩ := hcm
  obtain ⟨hh, hhe⟩ : ∃ hh : Nat, l.length / 2 = hh := ⟨_, rfl⟩
  have HQ : Hid (l.length / 2 = hh) := hhe
  have hq : IntKind.i64.wrap ((l.length : Int) / 2) = (hh : Int) := by rw [IntKind.wrap_i64]; omega
  have hq2 : (hh : Int) ≤ (cap : Int) := by omega
  have hql : hh ≤ l.length := by omega
  rw [hhe] at HX
  clear hhe
  have HS : Hid (SlX S w (.slice a l.length cap) l) := hx
  clear hx
  cases hf : look nm k.rs with
  | none =>
    clear h
    cases hdn : k.dn with
    | true =>
      rw [hdn] at c3
      go_enter Try.func21, Try.ntmps21
      go_wp2_with (at_lookup; refine wpList_look_none rfl _ _ rfl _ _ _ rfl hm nm rfl hn hf ?_)
      go_ret
      exact Done.mk (by rw [HX.out, hdn]; rfl) rfl (At.start HH.out) rfl
    | false =>
      rw [hdn] at c3
      go_enter Try.func21, Try.ntmps21
      go_wp2_with (at_lookup; refine wpList_look_none rfl _ _ rfl _ _ _ rfl hm nm rfl hn hf ?_)
      go_ret
      exact Done.mk (by rw [HX.out, hdn, hf]; rfl) rfl (At.start HH.out) rfl
  | some r =>
    obtain ⟨hr, hrn⟩ := look_some hf
    cases hdn : k.dn with
    | true =>
      rw [hdn] at c3
      clear h
      go_enter Try.func21, Try.ntmps21
      go_wp2_with (at_lookup; refine wpList_look_some rfl _ _ rfl _ _ _ rfl hm nm rfl hn r hf ?_)
      go_ret
      exact Done.mk (by rw [HX.out, hdn]; rfl) rfl (At.start HH.out) rfl
    | false =>
      rw [hdn] at c3
      have hsz := size_any h
      have hall := h.all
      clear h
      have hsl0 : (0 : Int) ≤ (sumLen k.rs : Int) := by omega
      by_cases hbig : 16777216 < l.length + sumLen k.rs
      · go_enter Try.func21, Try.ntmps21
        go_wp2_with (first | (at_lookup; refine wpList_look_some rfl _ _ rfl _ _ _ rfl hm nm rfl hn r hf ?_) | (go_at_call 23; refine hsz.mono ?_; rintro e w1 ⟨rfl, hB1⟩))
        go_ret
        exact Done.mk (by rw [HX.out, hdn, hf, if_pos hbig]; rfl) rfl ((At.start HH.out).below hB1) rfl
      have HB : Hid (¬ 16777216 < l.length + sumLen k.rs) := hbig
      have HF0 : Hid ({ k with last := some r.b }.fell = k.fell) := rfl
      have HR : Hid (r ∈ k.rs) := hr
      have HL : Hid (∀ b, some r.b = some b → ∃ q ∈ k.rs, q.b = b) := fun b hb => ⟨r, hr, by simpa using hb⟩
      cases hfe : k.fell with
      | true =>
        go_enter Try.func21, Try.ntmps21
        go_wp2_with (first | (at_lookup; refine wpList_look_some rfl _ _ rfl _ _ _ rfl hm nm rfl hn r hf ?_) | (go_at_call 23; refine hsz.mono ?_; rintro e w1 ⟨rfl, hB1⟩; have h1 := (At.start HH.out).below hB1; obtain ⟨⟨b0, b1, b2, b3⟩, t1, t2, t3⟩ := h1.dk.cells; have hfa := fails_any (h1.setD1 (some r.b) HL.out); rw [HF0.out, hfe] at hfa; unfold ptrV at hfa b1) | (go_at_call 56; refine hfa.mono ?_; rintro e w2 ⟨rfl, h2, -⟩; have hr2 : r ∈ ({ k with last := some r.b } : DS).fail.rs := (by rw [fail_rs]; exact HR.out); have hF := h2.dk.fs r hr2; obtain ⟨⟨g0, g1⟩, g2, g3⟩ := hF.cells; have hS2 := HS.out.out h2.out; have ho2 := hF.own))
        have hsl2 := hS2.sl.front hh hql
        obtain ⟨av, capv, hv, -, -⟩ := ho2.shape
        have HV : Hid (r.v = .slice av r.dat.length capv) := hv
        rw [hv] at g0 ho2
        have HA : Hid (∀ v' w3, Ow 0 w3 v' (r.dat ++ l.take hh) → w2.grownBy w3 (Value.slice av r.dat.length capv).ownBlock → (v'.ownBlock = (Value.slice av r.dat.length capv).ownBlock ∨ v'.ownBlock = some w2.heap.size) → At S w (w3.setCell ⟨r.b, 0, none⟩ v') d { ({ k with last := some r.b } : DS).fail with rs := ({ k with last := some r.b } : DS).fail.rs.map (repl { r with v := v', dat := r.dat ++ l.take hh }) } ∧ w3.cell? ⟨r.b, 0, none⟩ = some r.v ∧ w3.frozen? ⟨r.b, 0, none⟩ = false) := fun v' w3 q1 q2 q3 => by
          rw [← HV.out] at q2 q3
          have hh := h2.appended hr2 q1 q2 q3 (by have := hF.syn; simp; omega) (by rw [fail_rs]; have := HB.out; simp only [List.length_append, List.length_take]; omega)
          exact ⟨hh.1, by simp [World.cell?, hh.2], by simp [World.frozen?, hh.2]⟩
        have hlen : r.dat.length + (l.take hh).length ≤ 1099511627776 := by
          have h5 := hF.syn
          have h6 := h2.dk.all
          have h7 := sum_del_le hr2
          have := HB.out
          simp
          omega
        clear hv hF hS2
        go_region_law (refine step_append_ow rfl (.tmp 43) (.tmp 48) rfl 0 w2.heap.size (.slice av r.dat.length capv) (.slice a hh cap) r.dat (l.take hh) (by simp [Act.eval]) ho2 (by simp [Act.eval]) hsl2 hlen (Nat.zero_le _) ?_; intro v' w3 q1 q2 q3; obtain ⟨va, vc, rfl, -, -⟩ := q1.shape; obtain ⟨h3, z0, z1⟩ := HA.out _ w3 q1 ⟨q2.os, q2.tape, q2.output, q2.size, q2.block⟩ q3; rw [HV.out] at z0)
        all_goals (go_wp2; go_ret; have elen : (r.dat ++ l.take hh).length = r.dat.length + hh := (by simp; omega); rw [elen] at h3; refine Done.mk (by rw [HX.out, hdn, hf, if_neg HB.out, hfe]; rfl) rfl h3 ?_; show PD.mk _ _ _ = _; have e1 := app_pd h2 hr2 hrn (k0 := k) (fail_rs _) (fail_last _) (.slice va (r.dat.length + hh) vc) (l.take hh); rw [e1]; have e3 := fail_pd { k with last := some r.b }; have e4 : ({ k with last := some r.b } : DS).pd.fail.arm = k.pd.fail.arm := (by unfold PD.fail DS.pd; split <;> rfl); have e5 : ({ k with last := some r.b } : DS).pd.fail.dn = k.pd.fail.dn := (by unfold PD.fail DS.pd; split <;> rfl); rw [← e4, ← e5, ← e3]; rfl)
      | false =>
        go_enter Try.func21, Try.ntmps21
        go_wp2_with (first | (at_lookup; refine wpList_look_some rfl _ _ rfl _ _ _ rfl hm nm rfl hn r hf ?_) | (go_at_call 23; refine hsz.mono ?_; rintro e w1 ⟨rfl, hB1⟩; have h1 := (At.start HH.out).below hB1; obtain ⟨⟨b0, b1, b2, b3⟩, t1, t2, t3⟩ := h1.dk.cells; have hfa := fails_any (h1.setD1 (some r.b) HL.out); rw [HF0.out, hfe] at hfa; unfold ptrV at hfa b1) | (go_at_call 56; refine hfa.mono ?_; rintro e w2 ⟨rfl, h2, -⟩; have hr2 : r ∈ ({ k with last := some r.b } : DS).fail.rs := (by rw [fail_rs]; exact HR.out); have hF := h2.dk.fs r hr2; obtain ⟨⟨g0, g1⟩, g2, g3⟩ := hF.cells; have hS2 := HS.out.out h2.out; have ho2 := hF.own; have hsl2 := hS2.sl; obtain ⟨av, capv, hv, -, -⟩ := ho2.shape; have HV : Hid (r.v = .slice av r.dat.length capv) := hv; rw [hv] at g0 ho2; clear hv) | (at_builtin; refine wpList_append_ow rfl _ _ rfl 0 w2.heap.size _ _ r.dat l rfl ho2 rfl hsl2 (by have h5 := hF.syn; have h6 := h2.dk.all; have h7 := sum_del_le hr2; have := HB.out; omega) (Nat.zero_le _) ?_; intro v' w3 q1 q2 q3; obtain ⟨va, vc, rfl, -, -⟩ := q1.shape; rw [← HV.out] at q2 q3; obtain ⟨h3, hc3⟩ := h2.appended hr2 q1 q2 q3 (by have := hF.syn; simp; omega) (by rw [fail_rs]; have := HB.out; simp only [List.length_append]; omega); have z0 : w3.cell? ⟨r.b, 0, none⟩ = some r.v := (by simp [World.cell?, hc3]); have z1 : w3.frozen? ⟨r.b, 0, none⟩ = false := (by simp [World.frozen?, hc3])) | go_in)
        go_ret
        have elen : (r.dat ++ l).length = r.dat.length + l.length := List.length_append
        rw [elen] at h3
        refine Done.mk (by rw [HX.out, hdn, hf, if_neg HB.out, hfe]; rfl) rfl h3 ?_
        show PD.mk _ _ _ = _
        have e1 := app_pd h2 hr2 hrn (k0 := k) (fail_rs _) (fail_last _) (.slice va (r.dat.length + l.length) vc) l
        rw [e1]
        have e3 := fail_pd { k with last := some r.b }
        have e4 : ({ k with last := some r.b } : DS).pd.fail.arm = k.pd.fail.arm := by unfold PD.fail DS.pd; split <;> rfl
        have e5 : ({ k with last := some r.b } : DS).pd.fail.dn = k.pd.fail.dn := by unfold PD.fail DS.pd; split <;> rfl
        rw [← e4, ← e5, ← e3]; rfl

end Go.Proofs.Ytbjnhohfdpdcnaa
