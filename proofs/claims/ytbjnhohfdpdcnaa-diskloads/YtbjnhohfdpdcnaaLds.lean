/-
  DiskLoads: the walk of the law.
-/
import Derived.Test.YtbjnhohfdpdcnaaPla
import Derived.Test.YtbjnhohfdpdcnaaLd2
import Derived.Test.YtbjnhohfdpdcnaaFi4
namespace Go.Proofs.Ytbjnhohfdpdcnaa
open Go.RowKit Go.Shelf
set_option linter.unusedVariables false

theorem chk_says : ∀ {gl fs : List Fl} (A : List (List UInt8)), saysF gl = saysF fs → chkFls A gl = chkFls A fs
  | [], [], _, _ => rfl
  | [], _ :: _, _, h => by simp [saysF] at h
  | _ :: _, [], _, h => by simp [saysF] at h
  | g :: r, f :: t, A, h => by
    simp only [saysF, List.map_cons, List.cons.injEq] at h
    have ih := chk_says (gl := r) (fs := t) (A ++ [f.nm]) h.2
    have e := h.1
    simp only [Fl.says, Prod.mk.injEq] at e
    have e2 : chkFl A g = chkFl A f := by unfold chkFl; rw [e.1, e.2.1, e.2.2]
    unfold chkFls
    rw [e2, e.1, ih]
theorem sumF_says {gl fs : List Fl} (h : saysF gl = saysF fs) : sumF gl = sumF fs := by
  have e : ∀ l : List Fl, sumF l = ((saysF l).map fun x => x.2.1.length).sum := fun l => by unfold sumF saysF; rw [List.map_map]; rfl
  rw [e, e, h]
theorem loadE_says {gl fs : List Fl} (h : saysF gl = saysF fs) : loadE gl = loadE fs := by
  have h1 := chk_says [] h
  have h2 := sumF_says h
  have h3 : gl.length = fs.length := by have := congrArg List.length h; simpa [saysF] using this
  unfold loadE
  rw [h1, h2, h3]
theorem loadP_says {gl fs : List Fl} (h : saysF gl = saysF fs) : loadP gl = loadP fs := by
  have e : ∀ l : List Fl, (loadP l).fs = (saysF l).foldl (fun ps x => insP ⟨x.1, x.2.1, x.2.2.toNat, false⟩ (delP x.1 ps)) [] := fun l => by
    unfold loadP saysF
    rw [List.foldl_map]
    rfl
  show PD.mk (loadP gl).fs 0 false = PD.mk (loadP fs).fs 0 false
  rw [e, e, h]
theorem load_good {N : Nat} {S : Nat → Prop} {w : World} {d : Nat} {fs : List Fl} (h : Dsk N w S d (loadP fs)) (hE : loadE fs = 0) : Good (loadP fs) := by
  refine ⟨h.shape.1, fun f hf => ?_, h.shape.2.1, Nat.zero_le _⟩
  obtain ⟨-, -, hc⟩ := load_small hE
  have h1 := late_load fs fs.length (Nat.le_refl _) f (by rw [List.take_length]; exact hf)
  obtain ⟨-, g, hg, e⟩ := h1
  rw [e]
  exact (chkFls_ok hc g (List.mem_of_mem_take hg)).1

set_option maxRecDepth 100000 in
set_option maxHeartbeats 40000000 in
theorem diskLoads_walk (a b2 : Option Addr) (ca cb : Nat) (fs : List Fl) (l : List Opn) (w : World) (hf : FlsAt w.heap.size w a fs) (hfz : ∀ f ∈ fs, f.dat.length ≤ 140737488351232 ∧ f.nm.length ≤ maxLen) (hfl : fs.length ≤ 9223372036854775807) (hl : OpsAt w.heap.size w b2 l) (hll : l.length ≤ 9223372036854775807) (hsm : OpsSmall l) :
    Calls Try.prog 4 #[.slice a fs.length ca, .slice b2 l.length cb] w fun e w' => e = .returned (.bool true) ∧ Below w.heap.size w w' := by
  have HF : Hid (FlsAt w.heap.size w a fs) := hf
  have HFZ : Hid (∀ f ∈ fs, f.dat.length ≤ 140737488351232 ∧ f.nm.length ≤ maxLen) := hfz
  have HL : Hid (OpsAt w.heap.size w b2 l) := hl
  have HSM : Hid (OpsSmall l) := hsm
  clear hf hfz hl hsm
  go_enter Try.func4, Try.ntmps4
  go_wp2_with fail
  refine (first_any w).mono ?_
  rintro e w1 ⟨rfl, hB1⟩
  go_wp2_with fail
  refine (few_any b2 cb l w.heap.size w1 (HL.out.below hB1) hB1.size hll).mono ?_
  rintro e w2 ⟨⟨bb, rfl⟩, hB2⟩
  have HB2 : Hid (Below w.heap.size w w2) := hB1.trans (hB2.mono hB1.size)
  clear hB1 hB2
  go_wp2_with fail
  go_loopw [7, 8] (fun sv iv wr => ∃ (i : Nat) (m : Int), iv = .int .i64 (i : Int) ∧ sv = .int .i64 m ∧ i ≤ fs.length ∧ Below w.heap.size w wr) (fun _ iv _ => fs.length - (intOf iv).toNat)
  case atStart => exact ⟨0, 0, rfl, rfl, Nat.zero_le _, HB2.out⟩
  case round =>
    obtain ⟨i, m, rfl, rfl, hi, hB⟩ := hrel
    have HB : Hid (Below w.heap.size w wr) := hB
    by_cases hlt : i < fs.length
    · have hi0 : (0 : Int) ≤ (i : Int) := by omega
      have hi1 : (i : Int) < (fs.length : Int) := by omega
      by_cases h3 : i < 300
      · have hi3 : (i : Int) < 300 := by omega
        obtain ⟨b, off, rfl, hb1, hx⟩ := HF.out.at hlt
        obtain ⟨p0, p1, p2, p3⟩ := hx.below hb1 hB
        obtain ⟨h9, h8⟩ := HFZ.out _ (getD_mem hlt)
        unfold Fl.x at p1
        generalize (fs.getD i nilFl).nm = nm at *
        generalize (fs.getD i nilFl).dat = dat at *
        unfold maxLen at h8
        clear hx hB p3
        rcases Int.lt_or_le 20000 (nm.length : Int) with h1 | h1 <;> rcases Int.lt_or_le 20000 (dat.length : Int) with h2 | h2
        all_goals (go_wp2_with fail; go_quiet (fail); go_wp2; exact ⟨⟨i + 1, _, by go_num, rfl, by omega, HB.out.trans ⟨rfl, rfl, rfl, Nat.le_refl _, fun _ _ => rfl⟩⟩, by simp [intOf]; omega⟩)
      · have hi3 : decide ((i : Int) < 300) = false := by simp; omega
        have hbig : (300 : Int) < (fs.length : Int) := by omega
        clear hB
        cases bb <;> (go_wp2; go_ret; exact ⟨rfl, HB.out⟩)
    · have hge : decide ((i : Int) < (fs.length : Int)) = false := by simp; omega
      clear hB
      cases bb with
      | false =>
        go_wp2
        go_ret
        exact ⟨rfl, HB.out⟩
      | true =>
      by_cases hbig : (300 : Int) < (fs.length : Int)
      · go_wp2
        go_ret
        exact ⟨rfl, HB.out⟩
      have hbig' : decide ((300 : Int) < (fs.length : Int)) = false := by simpa using hbig
      by_cases hmm : (20000 : Int) < m
      · go_wp2
        go_ret
        exact ⟨rfl, HB.out⟩
      have hmm' : decide ((20000 : Int) < m) = false := by simpa using hmm
      have h300 : fs.length ≤ 300 := by omega
      clear hbig hmm
      go_wp2_with fail
      refine (files14 a ca fs w.heap.size wr (HF.out.below HB.out) HB.out.size (fun f hf => (HFZ.out f hf).1) h300).mono ?_
      rintro e w5 ⟨ga, gc, gl, rfl, hF5, hl5, hs5, hp5, hB5⟩
      have HF5 : Hid (FilesIn wr.heap.size w5 (.slice ga fs.length gc) gl ∧ gl.length = fs.length ∧ saysF gl = saysF fs ∧ gl.Pairwise ApF ∧ Below wr.heap.size wr w5) := ⟨hF5, hl5, hs5, hp5, hB5⟩
      have HB5 : Hid (Below w.heap.size w w5) := HB.out.trans (hB5.mono HB.out.size)
      have HGZ : Hid (∀ f ∈ gl, f.dat.length ≤ 140737488351232 ∧ f.nm.length ≤ maxLen) := fun f hf => by
        have h7 : f.says ∈ saysF fs := by rw [← hs5]; exact List.mem_map_of_mem hf
        obtain ⟨g, hg, e⟩ := List.mem_map.1 h7
        simp only [Fl.says, Prod.mk.injEq] at e
        rw [← e.1, ← e.2.1]
        exact HFZ.out g hg
      have HFA : Hid (FlsAt w5.heap.size w5 ga gl) := hF5.flsN hl5
      have HEE : Hid (loadE gl = loadE fs) := loadE_says hs5
      have HRL : Hid (∀ w', Below w.heap.size w w' → Calls Try.prog 16 #[.slice a fs.length ca] w' fun r w'' => LdP fs w' r w'') := fun w' hB' => refLoad a ca fs w.heap.size w' (HF.out.below hB') hB'.size HFZ.out h300
      have HSF : Hid (∀ w', Below w5.heap.size w5 w' → Calls Try.prog 17 #[.slice ga fs.length gc, .slice a fs.length ca] w' fun e w'' => e = .returned (.bool true) ∧ Below w'.heap.size w' w'') := fun w' hB' => by
        have h9 := sameFiles_any ga a gc ca gl fs w'.heap.size w' ((HFA.out.below hB').mono hB'.size) ((HF.out.below (HB5.out.trans (hB'.mono HB5.out.size))).mono (Nat.le_trans HB5.out.size hB'.size)) (Nat.le_refl _) (by omega)
        rw [hl5, show decide (saysF gl = saysF fs) = true from by rw [hs5]; simp] at h9
        exact h9
      by_cases hE : loadE fs = 0
      case neg =>
        have hlf := load_fail ga gc gl w5.heap.size w5 HFA.out (Nat.le_refl _) HGZ.out (by omega) (by rw [HEE.out]; exact hE)
        rw [hl5, HEE.out] at hlf
        have HE : Hid (loadE fs ≠ 0) := hE
        clear hF5 hl5 hs5 hp5 hB5 hE
        go_wp2_with fail
        refine hlf.mono ?_
        rintro e w6 ⟨rfl, hB6⟩
        have HB6 : Hid (Below w5.heap.size w5 w6) := hB6
        have HC6 : Hid (Below w.heap.size w w6) := HB5.out.trans (hB6.mono HB5.out.size)
        clear hlf hB6
        go_wp2_with fail
        refine (HRL.out w6 HC6.out).mono ?_
        rintro e w7 hld
        obtain ⟨-, rfl, hB7⟩ := hld.resolve_right (fun h9 => HE.out h9.1)
        have HB7 : Hid (Below w5.heap.size w5 w7) := HB6.out.trans (hB7.mono HB6.out.size)
        have HC7 : Hid (Below w.heap.size w w7) := HC6.out.trans (hB7.mono HC6.out.size)
        generalize loadE fs = er at *
        clear hld hB7
        go_wp2_with fail
        refine (HSF.out w7 HB7.out).mono ?_
        rintro e w8 ⟨rfl, hB8⟩
        go_wp2_with (first
          | (go_at_call 18; refine (num_any _ _).mono ?_; rintro e wz ⟨rfl, hz⟩; subst wz)
          | fail)
        go_ret
        exact ⟨rfl, HC7.out.trans (hB8.mono HC7.out.size)⟩
      have hlo := load_any ga gc gl w5.heap.size w5 HFA.out (Nat.le_refl _) (fun f hf => ⟨by have h7 := le_sumF hf; have h8 := (load_small (show loadE gl = 0 by rw [HEE.out]; exact hE)).2.1; omega, (HGZ.out f hf).2⟩) (by omega) (by rw [HEE.out]; exact hE)
      rw [hl5, loadP_says hs5] at hlo
      have HE : Hid (loadE fs = 0) := hE
      clear hF5 hl5 hs5 hp5 hB5 hE
      go_wp2_with fail
      refine hlo.mono ?_
      rintro e w6 ⟨d, S1, rfl, hD6, hB6⟩
      have HB6 : Hid (Below w5.heap.size w5 w6) := hB6
      have HC6 : Hid (Below w.heap.size w w6) := HB5.out.trans (hB6.mono HB5.out.size)
      have HD6 : Hid (Dsk w5.heap.size w6 S1 d (loadP fs)) := hD6
      clear hlo hB6 hD6
      go_wp2_with fail
      refine (HRL.out w6 HC6.out).mono ?_
      rintro e w7 hld
      obtain ⟨-, B, S2, rfl, hR7, hS7, hB7⟩ := hld.resolve_left (fun h9 => h9.1 HE.out)
      have HB7 : Hid (Below w5.heap.size w5 w7) := HB6.out.trans (hB7.mono HB6.out.size)
      have HC7 : Hid (Below w.heap.size w w7) := HC6.out.trans (hB7.mono HC6.out.size)
      have HBT : Hid (Bth w.heap.size S1 S2 w w7 d B (loadP fs)) := by
        have hd7 := HD6.out.below hB7
        obtain ⟨k, hk, hp, hS⟩ := hd7
        exact ⟨⟨k, hk, hp, fun i hi => Nat.le_trans HB5.out.size (hS i hi)⟩, hR7, fun j hj hk => by have h7 := HD6.out.inn j hj; have h8 := hS7 j hk; omega, fun j hj => Nat.le_trans HC6.out.size (hS7 j hj), HC7.out, Nat.le_refl _, load_good HD6.out HE.out⟩
      have HS1 : Hid (∀ j, S1 j → w5.heap.size ≤ j) := HD6.out.from
      have HS2 : Hid (∀ j, S2 j → w5.heap.size ≤ j) := fun j hj => Nat.le_trans HB6.out.size (hS7 j hj)
      generalize loadP fs = q0 at *
      clear hld hB7 hR7 hS7
      go_wp2_with fail
      refine (HSF.out w7 HB7.out).mono ?_
      rintro e w8 ⟨rfl, hB8⟩
      have HBT8 : Hid (Bth w.heap.size S1 S2 w w8 d B q0) := HBT.out.below hB8
      have HFI8 : Hid (FI wr.heap.size wr w8 ga fs.length gc gl ∧ ∀ f ∈ gl, ∀ b, f.x.ownBlock = some b → b < w5.heap.size) := by
        have b8 := HB7.out.trans (hB8.mono HB7.out.size)
        refine ⟨⟨⟨row_below HF5.out.1.row b8, fun f hf => (HF5.out.1.own f hf).below b8 (Nat.le_refl _)⟩, HF5.out.2.2.2.1, HF5.out.2.1, HF5.out.2.2.2.2.trans (b8.mono HF5.out.2.2.2.2.size), Nat.le_refl _⟩, fun f hf b hb => (World.ownsRow.lt (HF5.out.1.own f hf) b hb).2⟩
      clear hB8
      go_wp2_with (first
        | (go_at_call 18; refine (num_any _ _).mono ?_; rintro e wz ⟨rfl, hz⟩; subst wz)
        | fail)
      have HWZ : Hid (w.heap.size ≤ wr.heap.size) := HB.out.size
      clear HF5 HFA HRL HSF HGZ HB6 HB7 HC6 HC7 HD6 HBT HE HEE
      generalize wr = wz at *
      go_loopw [15] (fun iv wr => ∃ (i : Nat) (gl' : List Fl), iv = .int .i64 (i : Int) ∧ i ≤ fs.length ∧ (FI wz.heap.size wz wr ga fs.length gc gl' ∧ ∀ f ∈ gl', ∀ b, f.x.ownBlock = some b → b < w5.heap.size) ∧ Bth w.heap.size S1 S2 w wr d B q0) (fun iv _ => fs.length - (intOf iv).toNat)
      case atStart => exact ⟨0, gl, rfl, Nat.zero_le _, HFI8.out, HBT8.out⟩
      case round =>
        obtain ⟨i2, gl2, rfl, hi2, ⟨hL, hbl⟩, hbt⟩ := hrel
        have HLL : Hid (FI wz.heap.size wz wr ga fs.length gc gl2 ∧ ∀ f ∈ gl2, ∀ b, f.x.ownBlock = some b → b < w5.heap.size) := ⟨hL, hbl⟩
        have HBT : Hid (Bth w.heap.size S1 S2 w wr d B q0) := hbt
        by_cases hlt2 : i2 < fs.length
        · have hj0 : (0 : Int) ≤ (i2 : Int) := by omega
          have hj1 : (i2 : Int) < (fs.length : Int) := by omega
          have hil : i2 < gl2.length := by rw [hL.ln]; exact hlt2
          have hrw := hL.fi.row
          rw [hL.ln] at hrw
          obtain ⟨g, gcc, hge2, hgc⟩ := row_some hrw (by omega)
          cases hge2
          obtain ⟨f, hf⟩ : ∃ f, gl2.getD i2 nilFl = f := ⟨_, rfl⟩
          have HF2 : Hid (gl2.getD i2 nilFl = f) := hf
          have HFB : Hid (∀ b, f.x.ownBlock = some b → wz.heap.size ≤ b ∧ b < w5.heap.size) := fun b hb => by
            have hm : f ∈ gl2 := by rw [← hf]; exact getD_mem hil
            exact ⟨(World.ownsRow.lt (hL.fi.own f hm) b hb).1, hbl f hm b hb⟩
          have HIN : Hid (∀ (wq : World) (dat : List UInt8), dat.length = f.dat.length → FI wz.heap.size wz wq (some ⟨g, 0, none⟩) fs.length gc (gl2.set i2 ⟨f.nm, f.a, f.c, dat, f.syn⟩) → wq.cell? ⟨g, i2 * 3 + 1, none⟩ = some (.slice f.a f.dat.length f.c) ∧ Ow wz.heap.size wq (.slice f.a f.dat.length f.c) dat) := fun wq dat hd hli => by
            have hl2 : i2 < (gl2.set i2 ⟨f.nm, f.a, f.c, dat, f.syn⟩).length := by simpa using hil
            have hrow := hli.fi.row
            rw [hli.ln] at hrow
            have h1 := hrow.cellAt (i2 * 3 + 1) (by omega)
            have h2 := (cells_at hl2).2.1
            rw [getD_set hil] at h2
            have h3 := hli.fi.own _ (getD_mem hl2)
            rw [getD_set hil] at h3
            refine ⟨?_, ?_⟩
            · rw [h1, h2]; show some (Value.slice f.a dat.length f.c) = _; rw [hd]
            · have h4 : Ow wz.heap.size wq (.slice f.a dat.length f.c) dat := h3
              rw [hd] at h4
              exact h4
          have HST : Hid (FI wz.heap.size wz wr (some ⟨g, 0, none⟩) fs.length gc (gl2.set i2 ⟨f.nm, f.a, f.c, f.dat, f.syn⟩)) := by
            have e : gl2.set i2 ⟨f.nm, f.a, f.c, f.dat, f.syn⟩ = gl2 := by
              refine List.ext_getElem? fun j => ?_
              rw [List.getElem?_set]
              split
              · rename_i e3
                subst e3
                have h9 := getD_some hil
                rw [hf] at h9
                first | rw [if_pos hil, h9] | rw [h9]
              · rfl
            rw [e]
            exact hL
          have hfm : f.dat.length ≤ 9223372036854775807 := by
            have h9 := (HIN.out wr f.dat rfl HST.out).2.shape
            obtain ⟨_, _, e9, h7, h8⟩ := h9
            unfold maxLen at h8
            omega
          clear hL hbl hbt hf hgc hrw
          go_wp2_with fail
          generalize wr = wy at *
          go_loopw [16] (fun kv wr => ∃ (k : Nat) (dat : List UInt8), kv = .int .i64 (k : Int) ∧ k ≤ f.dat.length ∧ dat.length = f.dat.length ∧ FI wz.heap.size wz wr (some ⟨g, 0, none⟩) fs.length gc (gl2.set i2 ⟨f.nm, f.a, f.c, dat, f.syn⟩) ∧ Bth w.heap.size S1 S2 w wr d B q0) (fun kv _ => f.dat.length - (intOf kv).toNat)
          case atStart => exact ⟨0, f.dat, rfl, Nat.zero_le _, rfl, HST.out, HBT.out⟩
          case round =>
            obtain ⟨k, dat, rfl, hk, hdl, hli, hbt⟩ := hrel
            have HLI : Hid (FI wz.heap.size wz wr (some ⟨g, 0, none⟩) fs.length gc (gl2.set i2 ⟨f.nm, f.a, f.c, dat, f.syn⟩)) := hli
            have HDL2 : Hid (dat.length = f.dat.length) := hdl
            have HBT2 : Hid (Bth w.heap.size S1 S2 w wr d B q0) := hbt
            obtain ⟨r0, r2⟩ := HIN.out wr dat hdl hli
            by_cases hkl : k < f.dat.length
            · have hk0 : (0 : Int) ≤ (k : Int) := by omega
              have hk1 : (k : Int) < (f.dat.length : Int) := by omega
              have r3 : wr.ownsRow wz.heap.size 5 1 (.slice f.a f.dat.length f.c) f.dat.length (dat.map encB) := by have h9 := r2; unfold Ow at h9; rw [hdl] at h9; exact h9
              obtain ⟨b, bc, hbe, -⟩ := row_some r3 (by omega)
              have HFA2 : Hid (f.a = some ⟨b, 0, none⟩) := by show f.a = _; injection hbe
              have r2' : Ow wz.heap.size wr (.slice (some ⟨b, 0, none⟩) f.dat.length f.c) dat := by have h9 := r2; rw [HFA2.out] at h9; exact h9
              obtain ⟨⟨u, b1⟩, b2'⟩ := r2'.cells hdl hkl
              rw [HFA2.out] at r0
              clear hli hdl r2 r2' r3 hbe hbt
              go_wp2
              have hbo : f.x.ownBlock = some b := by unfold Fl.x; rw [HFA2.out]; rfl
              have hbb := HFB.out b hbo
              have h9 := FI.poke (k := k) HLI.out hlt2 (getD_set hil _) HFA2.out
              rw [List.set_set] at h9
              refine ⟨⟨k + 1, dat.set k 96, by go_num, by omega, by rw [List.length_set]; exact HDL2.out, h9, HBT2.out.out (X := (· = b)) (Out.set rfl) (fun i hi e => by have := HS1.out i hi; omega) (fun i hi e => by have := HS2.out i hi; omega) (fun i hi => by have := HWZ.out; omega)⟩, by simp [intOf]; omega⟩
            · have hkg : decide ((k : Int) < (f.dat.length : Int)) = false := by simp; omega
              clear hli hdl hbt
              go_wp2
              refine ⟨⟨i2 + 1, _, by go_num, by omega, ⟨HLI.out, fun x hx b hb => ?_⟩, HBT2.out⟩, by simp [intOf]; omega⟩
              rcases mem_set_fl hx with rfl | hx
              · refine (HFB.out b ?_).2
                have h9 := hb
                unfold Fl.x at h9 ⊢
                simp only at h9
                rw [HDL2.out] at h9
                exact h9
              · exact HLL.out.2 x hx b hb
        · have hgt : decide ((i2 : Int) < (fs.length : Int)) = false := by simp; omega
          have hsa := same_walk hbt
          clear hL hbl hbt
          go_wp2_with fail
          refine hsa.mono ?_
          rintro e w9 ⟨rfl, hB9⟩
          have HBT9 : Hid (Bth w.heap.size S1 S2 w w9 d B q0) := HBT.out.below hB9
          clear hB9 hsa
          go_wp2_with fail
          generalize wr = wy at *
          go_loopw [17, 18] (fun sv iv wr => ∃ (i : Nat) (S3 S4 : Nat → Prop) (q : PD), iv = .int .i64 (i : Int) ∧ sv = .bool true ∧ i ≤ l.length ∧ Bth w.heap.size S3 S4 w wr d B q) (fun _ iv _ => l.length - (intOf iv).toNat)
          case atStart => exact ⟨0, S1, S2, q0, rfl, rfl, Nat.zero_le _, HBT9.out⟩
          case round =>
            obtain ⟨i3, S3, S4, q, rfl, rfl, hi3, hb⟩ := hrel
            have HBX : Hid (Bth w.heap.size S3 S4 w wr d B q) := hb
            by_cases hlt3 : i3 < l.length
            · have hx0 : (0 : Int) ≤ (i3 : Int) := by omega
              have hx1 : (i3 : Int) < (l.length : Int) := by omega
              obtain ⟨ob2, off, rfl, hbb, ho⟩ := HL.out.at hlt3
              obtain ⟨⟨c0, c1, c2, c3, c4⟩, q0', q1, q2, q3⟩ := ho.below hbb hb.bel
              have hda := does_any hb (l.getD i3 nilOp) q0' q1 q2 q3 (HSM.out i3 hlt3)
              generalize l.getD i3 nilOp = o at *
              obtain ⟨kd, n, nm, to, oa, oc, ob⟩ := o
              unfold Opn.x at c4 hda
              simp only at c0 c1 c2 c3 c4 hda
              clear ho q0' q1 q2 q3 hb
              go_wp2_with (first
                | (go_at_call 12; refine hda.mono ?_; rintro e w6 ⟨rfl, S5, S6, hb6⟩; have hsa := same_walk hb6; have HB6 : Hid (Bth w.heap.size S5 S6 w w6 d B (toldP q ⟨kd, n, nm, to, oa, oc, ob⟩).2) := hb6; clear hb6)
                | (go_at_call 13; refine hsa.mono ?_; rintro e w7 ⟨rfl, hB7⟩)
                | fail)
              exact ⟨⟨i3 + 1, S5, S6, _, by go_num, rfl, by omega, HB6.out.below hB7⟩, by simp [intOf]; omega⟩
            · have hge3 : decide ((i3 : Int) < (l.length : Int)) = false := by simp; omega
              clear hb
              go_wp2
              go_ret
              exact ⟨rfl, HBX.out.bel⟩
end Go.Proofs.Ytbjnhohfdpdcnaa
