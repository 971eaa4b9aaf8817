/-
  Same of both disks: true.
-/
import Derived.Test.YtbjnhohfdpdcnaaSme
import Derived.Test.YtbjnhohfdpdcnaaFul
namespace Go.Proofs.Ytbjnhohfdpdcnaa
open Go.RowKit Go.Shelf
set_option linter.unusedVariables false

theorem files_apd {N : Nat} {S : Nat → Prop} {w : World} {d : Nat} {p : PD} (h : Dsk N w S d p) :
    Calls Try.prog 27 #[.pointer (some ⟨d, 0, none⟩)] w fun r w' => ∃ a c fs, r = .returned (.slice a p.fs.length c) ∧ FilesIn w.heap.size w' (.slice a p.fs.length c) fs ∧ fs.length = p.fs.length ∧ saysF fs = p.fs.map PF.says ∧ fs.Pairwise ApF ∧ Below w.heap.size w w' := by
  obtain ⟨k, hk, rfl, hS⟩ := h
  refine (files_ap hk).mono ?_
  rintro r w' ⟨v, fs, rfl, hF, hs, hp, hB⟩
  have hl : fs.length = k.pd.fs.length := by
    have := congrArg List.length hs
    simp at this
    rw [this]
    simp [DS.pd]
  obtain ⟨a, c, hv, _, _, hat⟩ := hF.at
  rw [hl] at hv
  subst hv
  exact ⟨a, c, fs, rfl, hF, hl, by rw [← says_pd]; exact hs, hp, hB⟩
theorem sum_eq {fl : List Fl} {ps : List PF} (h : saysF fl = ps.map PF.says) : sumF fl = sumP ps := sum_says h
theorem le_sumF {f : Fl} : ∀ {fs : List Fl}, f ∈ fs → f.dat.length ≤ sumF fs
  | [], h => by simp at h
  | g :: r, h => by
    simp only [sumF, List.map_cons, List.sum_cons]
    rcases List.mem_cons.1 h with rfl | h
    · omega
    · have := le_sumF h
      simp only [sumF] at this
      omega
theorem FilesIn.flsN {N n : Nat} {w : World} {a : Option Addr} {c : Nat} {fs : List Fl} (h : FilesIn N w (.slice a n c) fs) (hn : fs.length = n) : FlsAt w.heap.size w a fs := by
  subst hn
  obtain ⟨a', c', hv, _, _, hat⟩ := h.at
  cases hv
  exact hat

set_option maxRecDepth 100000 in
set_option maxHeartbeats 20000000 in
theorem same_walk {N : Nat} {S1 S2 : Nat → Prop} {w0 w : World} {d B : Nat} {q : PD} (h : Bth N S1 S2 w0 w d B q) : Calls Try.prog 13 #[.pointer (some ⟨d, 0, none⟩), .pointer (some ⟨B, 0, none⟩)] w fun r w' => r = .returned (.bool true) ∧ Below w.heap.size w w' := by
  obtain ⟨v, fs, l, hro⟩ := h.rds
  obtain ⟨va, vc, hv, -, -, hFA⟩ := hro.rd.fi.at
  have hfl : fs.length = q.fs.length := hro.rd.len
  have hq256 : q.fs.length ≤ 256 := by have := hro.rd.fw; omega
  have HSM : Hid (sumP q.fs ≤ 16777216) := hro.rd.sm
  have HD : Hid (∀ w', Below w.heap.size w w' → Dsk N w' S1 d q) := fun w' hB => h.dsk.below hB
  have HR : Hid (∀ w', Below w.heap.size w w' → RD 0 w' B q v fs l) := fun w' hB => hro.rd.out (X := fun _ => False) (Out.of_below hB) (fun h => h) (fun _ _ h => h) (fun _ _ _ _ h => h)
  have HK : Hid (∀ w', Below w.heap.size w w' → w'.cell? ⟨B, 0, none⟩ = some (.slice va q.fs.length vc) ∧ w'.cell? ⟨B, 2, none⟩ = some (.bool q.dn)) := fun w' hB => by
    have h9 := (HR.out w' hB).cells
    refine ⟨?_, h9.2.2.1⟩
    rw [h9.1, hv, hfl]
  have HSAME : Hid (∀ (w1 : World) (la : Option Addr) (lc : Nat) (fl : List Fl), Below w.heap.size w w1 → FlsAt w1.heap.size w1 la fl → fl.length = q.fs.length → saysF fl = q.fs.map PF.says → Calls Try.prog 17 #[.slice la q.fs.length lc, .slice va q.fs.length vc] w1 fun e w' => e = .returned (.bool true) ∧ Below w1.heap.size w1 w') := fun w1 la lc fl hB hF hl hs => by
    have h9 := sameFiles_any la va lc vc fl fs w1.heap.size w1 hF ((hFA.below hB).mono hB.size) (Nat.le_refl _) (by omega)
    rw [hl, hfl, show decide (saysF fl = saysF fs) = true from by rw [hs]; unfold saysF; rw [hro.rd.sy]; simp] at h9
    exact h9
  have HB0 : Hid (Below w.heap.size w w) := Below.refl _ _
  clear h hro hv hfl hFA
  go_enter Try.func13, Try.ntmps13
  go_wp2_with fail
  refine (files_apd (HD.out w HB0.out)).mono ?_
  rintro e w1 ⟨la, lc, fl, rfl, hF1, hl1, hs1, hp1, hB1⟩
  have m1 := (HK.out w1 hB1).1
  have hsm := HSAME.out w1 la lc fl hB1 (hF1.flsN hl1) hl1 hs1
  have HF1 : Hid (FilesIn w.heap.size w1 (.slice la q.fs.length lc) fl ∧ fl.length = q.fs.length ∧ saysF fl = q.fs.map PF.says ∧ fl.Pairwise ApF ∧ Below w.heap.size w w1) := ⟨hF1, hl1, hs1, hp1, hB1⟩
  clear hF1 hl1 hs1 hp1 hB1
  go_wp2_with fail
  refine hsm.mono ?_
  rintro e w2 ⟨rfl, hB2⟩
  have HB2 : Hid (Below w.heap.size w w2) := HF1.out.2.2.2.2.trans (hB2.mono HF1.out.2.2.2.2.size)
  have HX2 : Hid (Below w1.heap.size w1 w2) := hB2
  clear hB2 hsm m1
  go_wp2_with fail
  refine (list_dsk (HD.out w2 HB2.out)).mono ?_
  rintro e w3 ⟨ta, tc, rfl, hT3, hB3⟩
  have HT3 : Hid (TextsIn w2.heap.size w3 (.slice ta q.fs.length tc) (q.fs.map PF.nm)) := hT3
  have HX3 : Hid (Below w2.heap.size w2 w3) := hB3
  have HB3 : Hid (Below w.heap.size w w3) := HB2.out.trans (hB3.mono HB2.out.size)
  clear hT3 hB3
  go_wp2_with fail
  refine (refList (HR.out w3 HB3.out)).mono ?_
  rintro e w4 ⟨xa, xc, rfl, hX4, hB4⟩
  have hst := sameTexts_true (row_below HT3.out hB4) hX4 (by simp) (by omega)
  have HX4 : Hid (Below w3.heap.size w3 w4) := hB4
  have HB4 : Hid (Below w.heap.size w w4) := HB3.out.trans (hB4.mono HB3.out.size)
  clear hX4 hB4
  go_wp2_with fail
  refine hst.mono ?_
  rintro e w5 ⟨rfl, hB5⟩
  have HB5 : Hid (Below w.heap.size w w5) := HB4.out.trans (hB5.mono HB4.out.size)
  have HL5 : Hid (LI w.heap.size w w5 la q.fs.length lc (.slice ta q.fs.length tc) fl (q.fs.map PF.nm)) := by
    have b12 := HX2.out
    have b23 := b12.trans (HX3.out.mono b12.size)
    have b34 := b23.trans (HX4.out.mono b23.size)
    have b45 := b34.trans (hB5.mono b34.size)
    have c45 := HX4.out.trans (hB5.mono HX4.out.size)
    exact ⟨⟨row_below HF1.out.1.row b45, fun f hf => (HF1.out.1.own f hf).below b45 (Nat.le_refl _)⟩, HF1.out.2.2.2.1, HF1.out.2.1, row_base (row_below HT3.out c45) HB2.out.size, by simp, HB5.out, Nat.le_refl _⟩
  have HDL : Hid (∀ f ∈ fl, f.dat.length ≤ 16777216 + 0) := fun f hf => by have h1 := le_sumF hf; have h2 := sum_eq HF1.out.2.2.1; have h3 := HSM.out; omega
  clear hB5 hst HX2 HX3 HX4 HT3 HF1
  go_wp2_with fail
  go_loopw [9] (fun iv wr => ∃ (i : Nat) (fl : List Fl) (ts : List (List UInt8)), iv = .int .i64 (i : Int) ∧ i ≤ q.fs.length ∧ LI w.heap.size w wr la q.fs.length lc (.slice ta q.fs.length tc) fl ts ∧ ∀ f ∈ fl, f.dat.length ≤ 16777216 + i) (fun iv _ => q.fs.length - (intOf iv).toNat)
  case atStart => exact ⟨0, fl, _, rfl, Nat.zero_le _, HL5.out, HDL.out⟩
  case round =>
    obtain ⟨i, gl, ts, rfl, hi, hL, hD⟩ := hrel
    have HL : Hid (LI w.heap.size w wr la q.fs.length lc (.slice ta q.fs.length tc) gl ts) := hL
    have HDD : Hid (∀ f ∈ gl, f.dat.length ≤ 16777216 + i) := hD
    by_cases hlt : i < q.fs.length
    · have hi0 : (0 : Int) ≤ (i : Int) := by omega
      have hi1 : (i : Int) < (q.fs.length : Int) := by omega
      have hil : i < gl.length := by rw [hL.ln]; exact hlt
      have hrw := hL.fi.row
      rw [hL.ln] at hrw
      obtain ⟨g, gc, hge, hgc⟩ := row_some hrw (by omega)
      obtain ⟨tb, hte, htc, -, -⟩ := hL.tx.at hL.tn hlt
      cases hge
      subst hte
      obtain ⟨f, hf⟩ : ∃ f, gl.getD i nilFl = f := ⟨_, rfl⟩
      have HF : Hid (gl.getD i nilFl = f) := hf
      have hfl : f.dat.length ≤ 16777216 + 256 := by have := hD f (by rw [← hf]; exact getD_mem hil); omega
      have HIN : Hid (∀ (wq : World) (dat : List UInt8), dat.length = f.dat.length → LI w.heap.size w wq (some ⟨g, 0, none⟩) q.fs.length lc (.slice (some ⟨tb, 0, none⟩) q.fs.length tc) (gl.set i ⟨f.nm, f.a, f.c, dat, f.syn⟩) ts → wq.cell? ⟨g, i * 3 + 1, none⟩ = some (.slice f.a f.dat.length f.c) ∧ wq.frozen? ⟨g, i * 3 + 1, none⟩ = false ∧ Ow w.heap.size wq (.slice f.a f.dat.length f.c) dat) := fun wq dat hd hli => by
        have hl2 : i < (gl.set i ⟨f.nm, f.a, f.c, dat, f.syn⟩).length := by simpa using hil
        have hrow := hli.fi.row
        rw [hli.ln] at hrow
        have h1 := hrow.cellAt (i * 3 + 1) (by omega)
        have h2 := (cells_at hl2).2.1
        rw [getD_set hil] at h2
        have h3 := hli.fi.own _ (getD_mem hl2)
        rw [getD_set hil] at h3
        refine ⟨?_, hrow.frozenAt _, ?_⟩
        · rw [h1, h2]; show some (Value.slice f.a dat.length f.c) = _; rw [hd]
        · have h4 : Ow w.heap.size wq (.slice f.a dat.length f.c) dat := h3
          rw [hd] at h4
          exact h4
      have HST : Hid (LI w.heap.size w wr (some ⟨g, 0, none⟩) q.fs.length lc (.slice (some ⟨tb, 0, none⟩) q.fs.length tc) (gl.set i ⟨f.nm, f.a, f.c, f.dat, f.syn⟩) ts) := by
        have e : gl.set i ⟨f.nm, f.a, f.c, f.dat, f.syn⟩ = gl := by
          refine List.ext_getElem? fun j => ?_
          rw [List.getElem?_set]
          split
          · rename_i e3
            subst e3
            have h9 := getD_some hil
            rw [hf] at h9
            first | rw [if_pos hil, h9] | rw [h9]
          · rfl
        rw [e]
        exact hL
      clear hL hD hf hgc htc hrw
      go_wp2_with fail
      generalize wr = wz at *
      go_loopw [10] (fun kv wq => ∃ (k : Nat) (dat : List UInt8), kv = .int .i64 (k : Int) ∧ k ≤ f.dat.length ∧ dat.length = f.dat.length ∧ LI w.heap.size w wq (some ⟨g, 0, none⟩) q.fs.length lc (.slice (some ⟨tb, 0, none⟩) q.fs.length tc) (gl.set i ⟨f.nm, f.a, f.c, dat, f.syn⟩) ts) (fun kv _ => f.dat.length - (intOf kv).toNat)
      case atStart => exact ⟨0, f.dat, rfl, Nat.zero_le _, rfl, HST.out⟩
      case round =>
        obtain ⟨k, dat, rfl, hk, hdl, hli⟩ := hrel
        have HLI : Hid (LI w.heap.size w wr (some ⟨g, 0, none⟩) q.fs.length lc (.slice (some ⟨tb, 0, none⟩) q.fs.length tc) (gl.set i ⟨f.nm, f.a, f.c, dat, f.syn⟩) ts) := hli
        have HDL2 : Hid (dat.length = f.dat.length) := hdl
        obtain ⟨r0, r1, r2⟩ := HIN.out wr dat hdl hli
        have HO : Hid (Ow w.heap.size wr (.slice f.a f.dat.length f.c) dat) := r2
        by_cases hkl : k < f.dat.length
        · have hk0 : (0 : Int) ≤ (k : Int) := by omega
          have hk1 : (k : Int) < (f.dat.length : Int) := by omega
          have r3 : wr.ownsRow w.heap.size 5 1 (.slice f.a f.dat.length f.c) f.dat.length (dat.map encB) := by have h9 := r2; unfold Ow at h9; rw [hdl] at h9; exact h9
          obtain ⟨b, bc, hbe, -⟩ := row_some r3 (by omega)
          obtain ⟨fa, hfa⟩ : ∃ fa, f.a = fa := ⟨_, rfl⟩
          have HFA2 : Hid (f.a = some ⟨b, 0, none⟩) := by show f.a = _; injection hbe
          have r2' : wr.ownsRow w.heap.size 5 1 (.slice (some ⟨b, 0, none⟩) f.dat.length f.c) f.dat.length (dat.map encB) := by
            have h9 := r3
            rw [HFA2.out] at h9
            exact h9
          have b1 : wr.cell? ⟨b, k, none⟩ = some (encB (dat[k]?.getD 0)) := by
            have h9 := r2'.cellAt k (by omega)
            rw [h9, List.getElem?_map, List.getElem?_eq_getElem (by omega)]; rfl
          have b2 : wr.frozen? ⟨b, k, none⟩ = false := r2'.frozenAt k
          rw [HFA2.out] at r0
          generalize encB (dat[k]?.getD 0) = ub at *
          clear hli hdl r2 r2' r3 hbe hfa
          go_wp2
          refine ⟨⟨k + 1, dat.set k 97, by go_num, by omega, by rw [List.length_set]; exact HDL2.out, ?_⟩, by simp [intOf]; omega⟩
          have h9 := LI.poke (k := k) HLI.out hlt (getD_set hil _) HFA2.out
          rw [List.set_set] at h9
          exact h9
        · have hkg : decide ((k : Int) < (f.dat.length : Int)) = false := by simp; omega
          have hsl := sl_new wr [97] #[.int .u8 97] (by decide) (by decide) rfl
          have hOa := r2.alloc (.cells #[.int .u8 97] 5)
          have hBa : Below wr.heap.size wr (wr.alloc (.cells #[.int .u8 97] 5)) := (Below.refl _ _).alloc (Nat.le_refl _) _
          have hsz := hli.sz
          have HLA : Hid (LI w.heap.size w (wr.alloc (.cells #[.int .u8 97] 5)) (some ⟨g, 0, none⟩) q.fs.length lc (.slice (some ⟨tb, 0, none⟩) q.fs.length tc) (gl.set i ⟨f.nm, f.a, f.c, dat, f.syn⟩) ts) := hli.below hBa
          have HEND : Hid (∀ (w6 : World) (da : Option Addr) (dc : Nat), Ow w.heap.size w6 (.slice da (dat ++ [97]).length dc) (dat ++ [97]) → (wr.alloc (.cells #[.int .u8 97] 5)).grownBy w6 (Value.slice f.a f.dat.length f.c).ownBlock → ((Value.slice da (dat ++ [97]).length dc).ownBlock = (Value.slice f.a f.dat.length f.c).ownBlock ∨ (Value.slice da (dat ++ [97]).length dc).ownBlock = some (wr.alloc (.cells #[.int .u8 97] 5)).heap.size) → LI w.heap.size w (w6.setCell ⟨g, i * 3 + 1, none⟩ (.slice da (dat ++ [97]).length dc)) (some ⟨g, 0, none⟩) q.fs.length lc (.slice (some ⟨tb, 0, none⟩) q.fs.length tc) (gl.set i ⟨f.nm, da, dc, dat ++ [97], f.syn⟩) ts ∧ w6.cell? ⟨g, i * 3 + 1, none⟩ = some (.slice f.a f.dat.length f.c) ∧ w6.frozen? ⟨g, i * 3 + 1, none⟩ = false ∧ w6.cell? ⟨tb, i, none⟩ = some (.string ⟨(ts.getD i []).toArray⟩) ∧ w6.frozen? ⟨tb, i, none⟩ = false) := fun w6 da dc h1 h2 h3 => by
            have e : (Value.slice f.a f.dat.length f.c).ownBlock = (⟨f.nm, f.a, f.c, dat, f.syn⟩ : Fl).x.ownBlock := by unfold Fl.x; simp only; rw [HDL2.out]
            rw [e] at h2 h3
            have h9 := HLA.out.app hlt (getD_set hil _) h1 h2 h3
            rw [List.set_set] at h9
            refine ⟨h9, ?_⟩
            have ha := HIN.out _ dat HDL2.out HLA.out
            have hrow := HLA.out.fi.row
            have hO9 := HLA.out.fi.own _ (getD_mem (show i < (gl.set i ⟨f.nm, f.a, f.c, dat, f.syn⟩).length by simpa using hil))
            rw [getD_set hil] at hO9
            have hgb : w6.heap[g]? = (wr.alloc (.cells #[.int .u8 97] 5)).heap[g]? := h2.block g (World.ownsRow.lt hrow g rfl).2 (fun e2 => row_ty hrow hO9 (by decide) g rfl e2.symm)
            obtain ⟨b', hb', -, ht3, ht4⟩ := HLA.out.tx.at HLA.out.tn hlt
            cases hb'
            have htb : w6.heap[tb]? = (wr.alloc (.cells #[.int .u8 97] 5)).heap[tb]? := h2.block tb (World.ownsRow.lt HLA.out.tx tb rfl).2 (fun e2 => row_ty HLA.out.tx hO9 (by decide) tb rfl e2.symm)
            exact ⟨(World.cell?_of_block (a := ⟨g, i * 3 + 1, none⟩) hgb).trans ha.1, (World.frozen?_of_block (a := ⟨g, i * 3 + 1, none⟩) hgb).trans ha.2.1, (World.cell?_of_block (a := ⟨tb, i, none⟩) htb).trans ht3, (World.frozen?_of_block (a := ⟨tb, i, none⟩) htb).trans ht4⟩
          generalize ts.getD i [] = oldn at *
          have a0 : (wr.alloc (.cells #[.int .u8 97] 5)).cell? ⟨g, i * 3 + 1, none⟩ = some (.slice f.a f.dat.length f.c) := (HIN.out _ dat HDL2.out HLA.out).1
          have hdl5 : dat.length + [(97 : UInt8)].length ≤ 1099511627776 := by rw [hdl]; simp only [List.length_cons, List.length_nil]; omega
          clear hli hdl r2
          go_wp2_with (first
            | (at_builtin; refine wpList_append_ow rfl _ _ rfl w.heap.size (wr.heap.size + 1) _ _ dat [97] rfl hOa rfl hsl hdl5 (by simp; omega) ?_; intro v6 w6 hO6 hg6 hv6; obtain ⟨da, dc, rfl, -, -⟩ := hO6.shape; obtain ⟨hL6, n1, n2, n3, n4⟩ := HEND.out w6 da dc hO6 hg6 hv6; have HL6 : Hid (LI w.heap.size w (w6.setCell ⟨g, i * 3 + 1, none⟩ (.slice da (dat.length + 1) dc)) (some ⟨g, 0, none⟩) q.fs.length lc (.slice (some ⟨tb, 0, none⟩) q.fs.length tc) (gl.set i ⟨f.nm, da, dc, dat ++ [97], f.syn⟩) ts) := (by have e1 : (dat ++ [(97 : UInt8)]).length = dat.length + 1 := (by simp); rw [e1] at hL6; exact hL6); clear hL6 hO6 hg6 hv6)
            | fail)
          refine ⟨⟨i + 1, gl.set i ⟨f.nm, da, dc, dat ++ [97], f.syn⟩, ts.set i [111, 118, 101, 114], by go_num, by omega, HL6.out.over [111, 118, 101, 114], fun x hx => ?_⟩, by simp [intOf]; omega⟩
          rcases mem_set_fl hx with rfl | hx
          · have h1 := HDL2.out
            have h2 := HDD.out f (by rw [← HF.out]; exact getD_mem hil)
            simp only [List.length_append, List.length_cons, List.length_nil]
            omega
          · have := HDD.out x hx
            omega
    · have hgt : decide ((i : Int) < (q.fs.length : Int)) = false := by simp; omega
      have hb : Below w.heap.size w wr.drew := hL.be.trans ⟨rfl, rfl, rfl, Nat.le_refl _, fun _ _ => rfl⟩
      have m0 : wr.cell? ⟨B, 0, none⟩ = some (.slice va q.fs.length vc) := (HK.out wr hL.be).1
      clear hL hD
      go_wp2_with fail
      go_region_held3 (fun w' => w'.cell? ⟨B, 0, none⟩ = some (.slice va q.fs.length vc)) (go_keep)
        (first
          | (go_at_call 27; refine (files_apd (HD.out _ hb)).mono ?_; rintro e w7 ⟨ya, yc, yl, rfl, hF7, hl7, hs7, -, hB7⟩; replace hb := hb.trans (hB7.mono hb.size); have hsm := HSAME.out w7 ya yc yl hb (hF7.flsN hl7) hl7 hs7; have m7 := (HK.out w7 hb).1; clear hF7 hs7 hB7 hl7)
          | (go_at_call 17; refine hsm.mono ?_; rintro e w8 ⟨rfl, hB8⟩; replace hb := hb.trans (hB8.mono hb.size); have m8 := (HK.out w8 hb).1; clear hB8 hsm)
          | fail)
      all_goals (
        have hbz : Below w.heap.size w w8.drew := hb.trans ⟨rfl, rfl, rfl, Nat.le_refl _, fun _ _ => rfl⟩
        have x2 : w8.cell? ⟨B, 2, none⟩ = some (.bool q.dn) := (HK.out w8 hb).2
        clear hb m0
        go_wp2_with fail
        go_region_held3 (fun w' => w'.cell? ⟨B, 2, none⟩ = some (.bool q.dn)) (go_keep)
          (first
            | (go_at_call 23; refine (size_dsk (HD.out _ hbz)).mono ?_; rintro e w15 ⟨rfl, hB15⟩; replace hbz := hbz.trans (hB15.mono hbz.size); clear hB15; have m15 := (HK.out _ hbz).2)
            | (go_at_call 24; refine (refSize_any (HR.out _ hbz)).mono ?_; rintro e wz ⟨rfl, hz⟩; subst wz)
            | (go_at_call 29; refine (down_dsk (HD.out _ hbz)).mono ?_; rintro e wz ⟨rfl, hz⟩; subst wz)
            | fail)
        all_goals (go_wp2; go_ret; exact ⟨by simp, hbz⟩))
end Go.Proofs.Ytbjnhohfdpdcnaa
