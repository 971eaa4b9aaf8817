/-
  The document's Load.
-/
import Derived.Test.YtbjnhohfdpdcnaaRl1
import Derived.Test.YtbjnhohfdpdcnaaL3
import Derived.Test.YtbjnhohfdpdcnaaFul
namespace Go.Proofs.Ytbjnhohfdpdcnaa
open Go.RowKit Go.Shelf
set_option linter.unusedVariables false

theorem mem_load (l : List Fl) (nm : List UInt8) : ∀ i, i ≤ l.length → ((lookP nm (loadP (l.take i)).fs).isSome = true ↔ nm ∈ (l.take i).map Fl.nm)
  | 0, _ => by simp [loadP, lookP]
  | i + 1, hi => by
    have ih := mem_load l nm i (by omega)
    rw [loadP_step (by omega), names_take (by omega), List.mem_append, ← ih]
    unfold lookP
    rw [List.find?_isSome, List.find?_isSome]
    constructor
    · rintro ⟨x, hx, e⟩
      rcases mem_insP.1 hx with rfl | hx
      · right
        have e2 : (l.getD i nilFl).nm = nm := by simpa [Fl.pf] using e
        rw [e2]
        exact List.mem_singleton.2 rfl
      · left; exact ⟨x, (del_mem.1 hx).1, e⟩
    · rintro (⟨x, hx, e⟩ | h)
      · by_cases e2 : x.nm = (l.getD i nilFl).nm
        · exact ⟨_, mem_insP.2 (.inl rfl), by have e3 : x.nm = nm := by simpa using e
                                              show ((l.getD i nilFl).nm == nm) = true
                                              rw [← e2, e3]; simp⟩
        · exact ⟨x, mem_insP.2 (.inr (del_mem.2 ⟨hx, e2⟩)), e⟩
      · have e2 := List.mem_singleton.1 h
        exact ⟨_, mem_insP.2 (.inl rfl), by show ((l.getD i nilFl).nm == nm) = true; rw [e2]; simp⟩
theorem late_load (l : List Fl) : ∀ i, i ≤ l.length → ∀ f ∈ (loadP (l.take i)).fs, f.late = false ∧ ∃ g ∈ l.take i, f.nm = g.nm
  | 0, _ => by simp [loadP]
  | i + 1, hi => by
    intro f hf
    rw [loadP_step (by omega)] at hf
    rcases mem_insP.1 hf with rfl | hf
    · exact ⟨rfl, l.getD i nilFl, by rw [take_fl (by omega)]; simp, rfl⟩
    · obtain ⟨h1, g, hg, h2⟩ := late_load l i (by omega) f (del_mem.1 hf).1
      exact ⟨h1, g, by rw [take_fl (by omega)]; exact List.mem_append.2 (.inl hg), h2⟩
theorem RL.below {N : Nat} {w w' : World} {B : Nat} {p : PD} {v : Value} {fs : List Fl} {l : List UInt8} (h : RL N w B p v fs l) (hB : Below w.heap.size w w') : RL N w' B p v fs l :=
  ⟨h.le, (hB.block B h.lt).trans h.hd, ⟨row_below h.fi.row hB, fun f hf => (h.fi.own f hf).below hB (Nat.le_refl _)⟩, h.sy, h.fw, h.sm, h.la⟩
theorem below_drewN (w : World) (n : Nat) : Below w.heap.size w (w.drewN n) := ⟨rfl, rfl, rfl, Nat.le_refl _, fun _ _ => rfl⟩
theorem below_drew (w : World) : Below w.heap.size w w.drew := ⟨rfl, rfl, rfl, Nat.le_refl _, fun _ _ => rfl⟩
/-- What Load answers. -/
def LdP (fs : List Fl) (w : World) (r : Ending) (w' : World) : Prop :=
  (loadE fs ≠ 0 ∧ r = .returned (.tuple #[.pointer none, .int .i64 (loadE fs : Int)]) ∧ Below w.heap.size w w') ∨
  (loadE fs = 0 ∧ ∃ B S, r = .returned (.tuple #[.pointer (some ⟨B, 0, none⟩), .int .i64 0]) ∧ RDs S w' B (loadP fs) ∧ (∀ i, S i → w.heap.size ≤ i) ∧ Below w.heap.size w w')
theorem RL.ins {N : Nat} {w w' : World} {B : Nat} {p : PD} {v v' : Value} {fs : List Fl} (h : RL N w B p v fs []) (f : Fl) (g : PF) (hfg : f.says = g.says) (hno : ∀ q ∈ p.fs, q.nm ≠ g.nm) (hlate : g.late = (g.nm == [])) (hlen : fs.length < 300) (hsum : g.dat.length + sumP p.fs ≤ 42221246505369600)
    (hd : w'.heap[B]? = some (.cells #[v', .int .i64 (p.arm : Int), .bool p.dn, .string ⟨#[]⟩] 30 (0, 0))) (hfi : FilesIn N w' v' (insF f fs)) : RL N w' B { p with fs := insP g p.fs } v' (insF f fs) [] := by
  refine ⟨h.le, hd, hfi, insF_says f g hfg h.sy hno, by rw [len_ins]; omega, ?_, fun x hx => ?_⟩
  · show sumP (insP g p.fs) ≤ _
    rw [sumP_insP]
    exact hsum
  · rcases mem_insP.1 hx with rfl | hx
    · exact hlate
    · exact h.la x hx
theorem refPutL {N : Nat} {w : World} {B : Nat} {p : PD} {v : Value} {fs : List Fl} {l : List UInt8} (h : RL N w B p v fs l) (hN : N ≤ w.heap.size) (fn : List UInt8) (fa : Option Addr) (fc : Nat) (fd : List UInt8) (fy : Int) (hx : Ow N w (.slice fa fd.length fc) fd) (hfw : fs.length < 300) :
    Calls Try.prog 54 #[.pointer (some ⟨B, 0, none⟩), .agg #[.string ⟨fn.toArray⟩, .slice fa fd.length fc, .int .i64 fy]] w fun r w' => r = .returned (.tuple #[]) ∧ ∃ v', w'.heap[B]? = some (.cells #[v', .int .i64 (p.arm : Int), .bool p.dn, .string ⟨l.toArray⟩] 30 (0, 0)) ∧ FilesIn N w' v' (insF ⟨fn, fa, fc, fd, fy⟩ fs) ∧ Out (· = B) w w' ∧ ∀ g, v'.ownBlock = some g → w.heap.size ≤ g := by
  rcases h.fi.row.2 with ⟨hv0, h0⟩ | ⟨g, cap, cur, hv0, _⟩
  · have hfs : fs = [] := List.length_eq_zero_iff.1 h0
    subst hfs hv0
    exact refPutNil_anyL h fn fa fc fd fy hx hN
  · exact refPut_anyL h fn fa fc fd fy hx hfw hN g cap hv0

set_option maxRecDepth 100000 in
set_option maxHeartbeats 20000000 in
theorem refLoad (a : Option Addr) (c : Nat) (fs : List Fl) (N : Nat) (w : World) (h : FlsAt N w a fs) (hN : N ≤ w.heap.size) (hz : ∀ f ∈ fs, f.dat.length ≤ 140737488351232 ∧ f.nm.length ≤ maxLen) (hl : fs.length ≤ 300) :
    Calls Try.prog 16 #[.slice a fs.length c] w fun r w' => LdP fs w r w' := by
  have H1 : Hid (FlsAt N w a fs) := h
  have HZ : Hid (∀ f ∈ fs, f.dat.length ≤ 140737488351232 ∧ f.nm.length ≤ maxLen) := hz
  obtain ⟨B, hBe⟩ : ∃ B, w.heap.size = B := ⟨_, rfl⟩
  have HBE : Hid (w.heap.size = B) := hBe
  have HST : Hid (RL B (w.alloc (.cells #[.slice none 0 0, .int .i64 0, .bool false, .string ⟨#[]⟩] 30)) B (loadP (fs.take 0)) (.slice none 0 0) [] []) := by
    refine ⟨Nat.le_refl _, by rw [← hBe]; exact heap_alloc_new w _, ⟨World.ownsRow_nil _ _ _ _, by simp⟩, by simp [loadP], by simp, by simp [loadP, sumP], by simp [loadP]⟩
  have HB0 : Hid (Below B w (w.alloc (.cells #[.slice none 0 0, .int .i64 0, .bool false, .string ⟨#[]⟩] 30))) := by show Below B w _; rw [← hBe]; exact (Below.refl _ w).alloc (Nat.le_refl _) _
  clear h hz
  go_enter Try.func16, Try.ntmps16
  go_wp2_with fail
  try rw [hBe]
  clear hBe
  go_loopw [5] (fun iv wr => ∃ (i : Nat) (v : Value) (fl : List Fl), iv = .int .i64 (i : Int) ∧ i ≤ fs.length ∧ RL B wr B (loadP (fs.take i)) v fl [] ∧ fl.length = i ∧ sumP (loadP (fs.take i)).fs = sumF (fs.take i) ∧ chkFls [] fs = chkFls ((fs.take i).map Fl.nm) (fs.drop i) ∧ (∀ f ∈ fs.take i, isNm f.nm = true) ∧ Below B w wr) (fun iv _ => fs.length - (intOf iv).toNat)
  case atStart => exact ⟨0, _, [], rfl, Nat.zero_le _, HST.out, rfl, by simp [loadP, sumP, sumF], by simp, by simp, HB0.out⟩
  case round =>
    obtain ⟨i, v, fl, rfl, hi, hR, hfl, hsu, hck, hnk, hB⟩ := hrel
    have HR : Hid (RL B wr B (loadP (fs.take i)) v fl []) := hR
    have HFL : Hid (fl.length = i) := hfl
    have HSU : Hid (sumP (loadP (fs.take i)).fs = sumF (fs.take i)) := hsu
    have HC : Hid (chkFls [] fs = chkFls ((fs.take i).map Fl.nm) (fs.drop i)) := hck
    have HNK : Hid (∀ f ∈ fs.take i, isNm f.nm = true) := hnk
    have HB : Hid (Below B w wr) := hB
    have HNB : Hid (N ≤ B) := by show N ≤ B; rw [← HBE.out]; exact hN
    by_cases hlt : i < fs.length
    · have hi0 : (0 : Int) ≤ (i : Int) := by omega
      have hi1 : (i : Int) < (fs.length : Int) := by omega
      obtain ⟨b, off, rfl, hb1, hx⟩ := H1.out.at hlt
      obtain ⟨p0, p1, p2, p3⟩ := hx.below hb1 (hB.mono HNB.out)
      have HX : Hid (∀ w', Below B w w' → FlAt N w' b (off + i * 3) (fs.getD i nilFl)) := fun w' hB' => hx.below hb1 (hB'.mono HNB.out)
      have HSTP := chkFls_step fs hlt ((fs.take i).map Fl.nm)
      have HNT : Hid ((fs.take (i + 1)).map Fl.nm = (fs.take i).map Fl.nm ++ [(fs.getD i nilFl).nm]) := names_take hlt
      have HTK : Hid (fs.take (i + 1) = fs.take i ++ [fs.getD i nilFl]) := take_fl hlt
      have HSF : Hid (sumF (fs.take (i + 1)) = sumF (fs.take i) + (fs.getD i nilFl).dat.length) := sumF_take hlt
      have HLS : Hid ((loadP (fs.take (i + 1))).fs = insP (fs.getD i nilFl).pf (delP (fs.getD i nilFl).nm (loadP (fs.take i)).fs)) := loadP_step hlt
      obtain ⟨h9, h8⟩ := HZ.out _ (getD_fl hlt)
      have hsb : sumF (fs.take i) ≤ i * 140737488351232 := by
        have h7 := sumF_leX (fs := fs.take i) (fun f hf => (HZ.out f (List.mem_of_mem_take hf)).1)
        rw [List.length_take] at h7
        have : min i fs.length = i := by omega
        rw [this] at h7
        exact h7
      have hat := refAt_anyL hR (fs.getD i nilFl).nm
      have hsn := says_nm hR.sy (fs.getD i nilFl).nm
      rw [mem_load fs _ i (by omega)] at hsn
      have HSN : Hid ((∃ x ∈ fl, x.nm = (fs.getD i nilFl).nm) ↔ (fs.getD i nilFl).nm ∈ (fs.take i).map Fl.nm) := hsn
      generalize fs.getD i nilFl = f at *
      obtain ⟨nm, fa, fc, dat, syn⟩ := f
      unfold Fl.x at p1 p3
      simp only at p0 p1 p2 p3 h8 h9 HSTP hat
      have HERR : Hid (∀ e : Nat, e ≠ 0 → chkFl ((fs.take i).map Fl.nm) ⟨nm, fa, fc, dat, syn⟩ = e → loadE fs = e) := fun e he hce => by
        have h7 := HC.out.trans HSTP
        rw [hce, if_pos he] at h7
        unfold loadE
        rw [h7, if_pos he]
      have HWB : Hid (Below w.heap.size w wr) := by show Below w.heap.size w wr; rw [HBE.out]; exact HB.out
      cases hnm : isNm nm with
      | false =>
        have HE : Hid (loadE fs = 7) := HERR.out 7 (by decide) (by simp [chkFl, hnm])
        have HNM : Hid (isNm nm = false) := hnm
        clear hR hck hnk hB hsn HSTP hat p3 hx hnm hsu hfl
        go_wp2_with (first
          | (go_at_call 52; refine (refName_any nm _ h8).mono ?_; rintro r w' ⟨rfl, hw⟩; subst w'; rw [HNM.out])
          | fail)
        go_ret2
        exact .inl ⟨by rw [HE.out]; decide, by rw [HE.out]; rfl, HWB.out⟩
      | true =>
      have HNM : Hid (isNm nm = true) := hnm
      by_cases hin : nm ∈ (fs.take i).map Fl.nm
      · have HE : Hid (loadE fs = 9) := HERR.out 9 (by decide) (by simp only [chkFl]; rw [if_neg (by simp [hnm]), if_pos (by simpa using hin)])
        have HXX : Hid (∃ x ∈ fl, x.nm = nm) := HSN.out.2 hin
        clear hR hck hnk hB hsn HSTP p3 hx hnm hin hsu hfl
        go_wp2_with (first
          | (go_at_call 52; refine (refName_any nm _ h8).mono ?_; rintro r w' ⟨rfl, hw⟩; subst w'; rw [HNM.out])
          | (go_at_call 53; refine hat.mono ?_; rintro r w' ⟨j, rfl, hj, hw⟩; subst w'; have hj0 : (0 : Int) ≤ j := (by obtain ⟨j', rfl, -⟩ := at_pos hj HXX.out; omega); clear hj)
          | fail)
        go_ret2
        exact .inl ⟨by rw [HE.out]; decide, by rw [HE.out]; rfl, HWB.out⟩
      have HXX : Hid (∀ x ∈ fl, x.nm ≠ nm) := fun x hx e => hin (HSN.out.1 ⟨x, hx, e⟩)
      have HCK0 : Hid (chkFl ((fs.take i).map Fl.nm) ⟨nm, fa, fc, dat, syn⟩ = if syn < 0 ∨ (dat.length : Int) < syn then 1 else 0) := by
        show chkFl _ _ = _
        simp only [chkFl]
        rw [if_neg (by simp [hnm]), if_neg (by simpa using hin)]
      by_cases hsy : syn < 0 ∨ (dat.length : Int) < syn
      · have HE : Hid (loadE fs = 1) := HERR.out 1 (by decide) (by rw [HCK0.out, if_pos hsy])
        clear hR hck hnk hB hsn HSTP p3 hx hnm hin hsu hfl
        rcases Int.lt_or_le syn 0 with hs | hs
        · have hs1 : decide (syn < 0) = true := by simpa using hs
          clear hsy
          go_wp2_with (first
            | (go_at_call 52; refine (refName_any nm _ h8).mono ?_; rintro r w' ⟨rfl, hw⟩; subst w'; rw [HNM.out])
            | (go_at_call 53; refine hat.mono ?_; rintro r w' ⟨j, rfl, hj, hw⟩; subst w'; have hj0 : j < (0 : Int) := at_neg hj HXX.out; clear hj)
            | fail)
          go_quiet (fail)
          go_wp2
          go_ret2
          exact .inl ⟨by rw [HE.out]; decide, by rw [HE.out]; rfl, HWB.out.trans ⟨rfl, rfl, rfl, Nat.le_refl _, fun _ _ => rfl⟩⟩
        · have hs1 : decide (syn < 0) = false := by simpa using hs
          have hs2 : (dat.length : Int) < syn := hsy.resolve_left (by omega)
          clear hsy
          go_wp2_with (first
            | (go_at_call 52; refine (refName_any nm _ h8).mono ?_; rintro r w' ⟨rfl, hw⟩; subst w'; rw [HNM.out])
            | (go_at_call 53; refine hat.mono ?_; rintro r w' ⟨j, rfl, hj, hw⟩; subst w'; have hj0 : j < (0 : Int) := at_neg hj HXX.out; clear hj)
            | fail)
          go_quiet (fail)
          go_wp2
          go_ret2
          exact .inl ⟨by rw [HE.out]; decide, by rw [HE.out]; rfl, HWB.out.trans ⟨rfl, rfl, rfl, Nat.le_refl _, fun _ _ => rfl⟩⟩
      have hs0 : (0 : Int) ≤ syn := by omega
      have hs1 : decide (syn < 0) = false := by simpa using hs0
      have hs2 : syn ≤ (dat.length : Int) := by omega
      have hs3 : decide ((dat.length : Int) < syn) = false := by simpa using hs2
      obtain ⟨y, hye⟩ : ∃ y : Nat, syn = (y : Int) := ⟨syn.toNat, by omega⟩
      have HYE : Hid (syn = (y : Int)) := hye
      have HNX : Hid (∀ (w6 : World) (v6 : Value) (ga : Option Addr) (gc : Nat) (w5 : World), Below wr.heap.size wr w5 → w6.heap[B]? = some (.cells #[v6, .int .i64 ((loadP (fs.take i)).arm : Int), .bool (loadP (fs.take i)).dn, .string ⟨#[]⟩] 30 (0, 0)) → FilesIn B w6 v6 (insF ⟨nm, ga, gc, dat, syn⟩ fl) → RL B w6 B (loadP (fs.take (i + 1))) v6 (insF ⟨nm, ga, gc, dat, syn⟩ fl) []) := fun w6 v6 ga gc w5 hB5 hd6 hf6 => by
        have hne : ∀ q ∈ (loadP (fs.take i)).fs, q.nm ≠ nm := says_no HR.out.sy HXX.out
        have h7 := (HR.out.below hB5).ins ⟨nm, ga, gc, dat, syn⟩ ⟨nm, dat, y, false⟩ (by simp only [Fl.says, PF.says, Prod.mk.injEq]; exact ⟨trivial, trivial, HYE.out⟩) hne (by show false = (nm == []); have := isNm_ne HNM.out; rw [show (nm == []) = false from by simpa using this]) (by have := HFL.out; omega) (by show dat.length + sumP (loadP (fs.take i)).fs ≤ _; rw [HSU.out]; omega) hd6 hf6
        have e : loadP (fs.take (i + 1)) = { loadP (fs.take i) with fs := insP ⟨nm, dat, y, false⟩ (loadP (fs.take i)).fs } := by
          show PD.mk (loadP (fs.take (i + 1))).fs 0 false = _
          rw [HLS.out]
          have e2 : (⟨nm, fa, fc, dat, syn⟩ : Fl).pf = ⟨nm, dat, y, false⟩ := by simp only [Fl.pf, HYE.out]; rfl
          rw [e2]
          simp only
          rw [delP_none hne]
          rfl
        rw [e]
        exact h7
      have HSU2 : Hid (sumP (loadP (fs.take (i + 1))).fs = sumF (fs.take (i + 1))) := by
        show _ = _
        rw [HLS.out, HSF.out, sumP_insP, delP_none (says_no HR.out.sy HXX.out), HSU.out]
        show dat.length + _ = _ + dat.length
        omega
      have HC2 : Hid (chkFls [] fs = chkFls ((fs.take (i + 1)).map Fl.nm) (fs.drop (i + 1))) := by
        show _ = _
        rw [HNT.out]
        have h7 := HC.out.trans HSTP
        rw [HCK0.out, if_neg hsy] at h7
        simpa using h7
      have HNK2 : Hid (∀ f ∈ fs.take (i + 1), isNm f.nm = true) := fun f hf => by
        rw [HTK.out] at hf
        rcases List.mem_append.1 hf with hf | hf
        · exact HNK.out f hf
        · rw [List.mem_singleton.1 hf]; exact HNM.out
      have HP3 : Hid (Sl N wr (.slice fa dat.length fc) dat) := p3
      have hBsz : B ≤ wr.heap.size := by have h7 := HB.out.size; have h6 := HBE.out; omega
      clear hR hck hnk hB hsn HSTP p3 hx hnm hin hsu hfl hsy hye
      go_wp2_with (first
        | (go_at_call 52; refine (refName_any nm _ h8).mono ?_; rintro r w' ⟨rfl, hw⟩; subst w'; rw [HNM.out])
        | (go_at_call 53; refine hat.mono ?_; rintro r w' ⟨j, rfl, hj, hw⟩; subst w'; have hj0 : j < (0 : Int) := at_neg hj HXX.out; clear hj)
        | fail)
      go_quiet (fail)
      have hBq : Below wr.heap.size wr ((wr.drewN nq).drew) := below_drewN wr (nq + 1)
      have hby := bytes_anyX N (.slice fa dat.length fc) dat ((wr.drewN nq).drew) (HP3.out.below (hBq.mono (by have := HNB.out; omega))) (by show N ≤ wr.heap.size; have := HNB.out; omega) (by omega)
      have hbN : b < wr.heap.size := by have := HNB.out; omega
      clear hat
      go_wp2_with fail
      go_region_held3 (fun w' => w'.cell? ⟨b, off + i * 3, none⟩ = some (.string ⟨nm.toArray⟩) ∧ w'.cell? ⟨b, off + i * 3 + 1, none⟩ = some (.slice fa dat.length fc) ∧ w'.cell? ⟨b, off + i * 3 + 2, none⟩ = some (.int .i64 syn)) (go_keep)
        (first
          | (go_at_call 49; refine hby.mono ?_; rintro e w5 ⟨v5, rfl, hO5, hB5⟩; obtain ⟨ga, gc, rfl, -, -⟩ := hO5.shape; have hB5x : Below wr.heap.size wr w5 := ⟨hB5.os, hB5.tape, hB5.output, hB5.size, hB5.block⟩; have k0 := (hB5x.cell (p := ⟨b, off + i * 3, none⟩) hbN).trans p0; have k1 := (hB5x.cell (p := ⟨b, off + i * 3 + 1, none⟩) hbN).trans p1; have k2 := (hB5x.cell (p := ⟨b, off + i * 3 + 2, none⟩) hbN).trans p2; have hput := refPutL (HR.out.below hB5x) (by have := hB5x.size; omega) nm ga gc dat syn (hO5.base (show B ≤ wr.heap.size from hBsz)) (by have := HFL.out; omega); clear hby)
          | (go_at_call 54; refine hput.mono ?_; rintro e w6 ⟨rfl, v6, hb6, hf6, ho6, -⟩; have hblk : w6.heap[b]? = w5.heap[b]? := (ho6.block b (by have := hB5x.size; omega) (fun e => by have := HNB.out; omega)); have j0 := (World.cell?_of_block (a := ⟨b, off + i * 3, none⟩) hblk).trans k0; have j1 := (World.cell?_of_block (a := ⟨b, off + i * 3 + 1, none⟩) hblk).trans k1; have j2 := (World.cell?_of_block (a := ⟨b, off + i * 3 + 2, none⟩) hblk).trans k2; have HR6 : Hid (RL B w6 B (loadP (fs.take (i + 1))) v6 (insF ⟨nm, ga, gc, dat, syn⟩ fl) []) := HNX.out w6 v6 ga gc w5 hB5x hb6 hf6; have HB6 : Hid (Below B w w6) := (HB.out.trans (hB5x.mono hBsz)).trans (ho6.below (by have := hB5x.size; omega) (fun j hj => by rw [hj]; exact Nat.le_refl _)); clear hb6 hf6 hput)
          | fail)
      all_goals (go_wp2; exact ⟨⟨i + 1, v6, _, by go_num, by omega, HR6.out, by rw [len_ins, HFL.out], HSU2.out, HC2.out, HNK2.out, HB6.out⟩, by simp [intOf]; omega⟩)
    · have hge : decide ((i : Int) < (fs.length : Int)) = false := by simp; omega
      have HIL : Hid (i = fs.length) := by show i = fs.length; omega
      have HTA : Hid (fs.take i = fs) := List.take_of_length_le (by omega)
      have HCZ : Hid (chkFls [] fs = 0) := by show chkFls [] fs = 0; rw [HC.out, List.drop_eq_nil_of_le (by omega)]; rfl
      have HLE : Hid (loadE fs = if 256 < fs.length ∨ 16777216 < sumF fs then 10 else 0) := by show loadE fs = _; unfold loadE; rw [HCZ.out, if_neg (by simp)]
      obtain ⟨va, vc, hv⟩ := row_shape hR.fi.row
      have k0 := hR.cells.1
      rw [hv, hfl] at k0
      have hsz := refSize_anyL hR
      rw [HSU.out, HTA.out] at hsz
      have HWB : Hid (Below w.heap.size w wr) := by show Below w.heap.size w wr; rw [HBE.out]; exact HB.out
      by_cases hb1 : 256 < fs.length
      · have hb2 : (256 : Int) < (i : Int) := by omega
        have HE : Hid (loadE fs = 10) := by show loadE fs = 10; rw [HLE.out, if_pos (.inl hb1)]
        clear hR hck hnk hB hsu hfl hv
        go_wp2_with (first | (go_at_call 24; refine hsz.mono ?_; rintro e wz ⟨rfl, hz⟩; subst wz) | fail)
        go_ret2
        exact .inl ⟨by rw [HE.out]; decide, by rw [HE.out]; rfl, HWB.out⟩
      have hb2 : decide ((256 : Int) < (i : Int)) = false := by simp; omega
      by_cases hs1 : 16777216 < sumF fs
      · have hs2 : (16777216 : Int) < (sumF fs : Int) := by omega
        have HE : Hid (loadE fs = 10) := by show loadE fs = 10; rw [HLE.out, if_pos (.inr hs1)]
        clear hR hck hnk hB hsu hfl hv
        go_wp2_with (first | (go_at_call 24; refine hsz.mono ?_; rintro e wz ⟨rfl, hz⟩; subst wz) | fail)
        go_ret2
        exact .inl ⟨by rw [HE.out]; decide, by rw [HE.out]; rfl, HWB.out⟩
      have hs2 : decide ((16777216 : Int) < (sumF fs : Int)) = false := by simp; omega
      have HE : Hid (loadE fs = 0) := by show loadE fs = 0; rw [HLE.out, if_neg (by omega)]
      have HS3 : Hid (fs.length ≤ 256 ∧ sumF fs ≤ 16777216) := ⟨by omega, by omega⟩
      clear hR hck hnk hB hsu hfl hv
      go_wp2_with (first | (go_at_call 24; refine hsz.mono ?_; rintro e wz ⟨rfl, hz⟩; subst wz) | fail)
      go_ret2
      have hr := HR.out
      rw [HTA.out] at hr
      have hsu2 := HSU.out
      rw [HTA.out] at hsu2
      refine .inr ⟨HE.out, B, fun j => w.heap.size ≤ j ∧ j < wr.heap.size, rfl, ⟨v, fl, [], ⟨⟨Nat.zero_le _, hr.hd, hr.fi.base (Nat.zero_le _), hr.sy, by rw [HFL.out, HIL.out]; exact HS3.out.1, by rw [hsu2]; exact HS3.out.2, hr.la⟩, ⟨by rw [HBE.out]; exact Nat.le_refl _, hr.lt⟩, fun g hg => ?_, fun f hf g hg => ?_, fun j hj => hj.2, .inl rfl⟩⟩, fun j hj => hj.1, HWB.out⟩
      · have h7 := hr.fi.row.lt g hg
        exact ⟨by rw [HBE.out]; exact h7.1, h7.2⟩
      · have h7 := World.ownsRow.lt (hr.fi.own f hf) g hg
        exact ⟨by rw [HBE.out]; exact h7.1, h7.2⟩
end Go.Proofs.Ytbjnhohfdpdcnaa
