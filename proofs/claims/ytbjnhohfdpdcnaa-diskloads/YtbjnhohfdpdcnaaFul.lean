/-
  DiskFull: the walk of the law.
-/
import Derived.Test.YtbjnhohfdpdcnaaRf1
namespace Go.Proofs.Ytbjnhohfdpdcnaa
open Go.RowKit Go.Shelf
set_option linter.unusedVariables false

/-- Texts, in blocks below N. -/
def TsAt (N : Nat) (w : World) (a : Option Addr) (ts : List (List UInt8)) : Prop :=
  ts = [] ∨ ∃ b off, a = some ⟨b, off, none⟩ ∧ b < N ∧ ∀ i, i < ts.length → w.cell? ⟨b, off + i, none⟩ = some (.string ⟨(ts.getD i []).toArray⟩) ∧ (ts.getD i []).length ≤ maxLen
theorem TsAt.at {N : Nat} {w w' : World} {a : Option Addr} {ts : List (List UInt8)} (h : TsAt N w a ts) (hB : Below N w w') {i : Nat} (hi : i < ts.length) : ∃ b off, a = some ⟨b, off, none⟩ ∧ b < N ∧ w'.cell? ⟨b, off + i, none⟩ = some (.string ⟨(ts.getD i []).toArray⟩) ∧ (ts.getD i []).length ≤ maxLen := by
  rcases h with rfl | ⟨b, off, ha, hb, hc⟩
  · simp at hi
  · exact ⟨b, off, ha, hb, (hB.cell (p := ⟨b, off + i, none⟩) hb).trans (hc i hi).1, (hc i hi).2⟩
/-- A new disk of the document's. -/
theorem rd_new (w : World) : RDs (fun i => i = w.heap.size) (w.alloc (.cells #[.slice none 0 0, .int .i64 0, .bool false, .string ⟨#[]⟩] 30)) w.heap.size ⟨[], 0, false⟩ := by
  refine ⟨.slice none 0 0, [], [], ⟨Nat.zero_le _, heap_alloc_new w _, ⟨World.ownsRow_nil _ _ _ _, by simp⟩, rfl, by simp, by simp [sumP], by simp⟩, rfl, fun g hg => by simp [Value.ownBlock] at hg, by simp, fun i hi => by subst hi; simp, .inl rfl⟩
theorem good_nil : Good ⟨[], 0, false⟩ := ⟨List.Pairwise.nil, fun f hf => by simp at hf, fun f hf => by simp at hf, by simp⟩
theorem Bth.new {N : Nat} {w0 w w4 : World} (hB : Below N w0 w) (hN : N ≤ w0.heap.size) (hd : Dsk N w4 (fun i => w.heap.size ≤ i ∧ i < w.heap.size + 2) (w.heap.size + 1) ⟨[], 0, false⟩) (hB4 : Below w.heap.size w w4) : Bth N (fun i => w.heap.size ≤ i ∧ i < w.heap.size + 2) (fun i => i = w4.heap.size) w0 (w4.alloc (.cells #[.slice none 0 0, .int .i64 0, .bool false, .string ⟨#[]⟩] 30)) (w.heap.size + 1) w4.heap.size ⟨[], 0, false⟩ := by
  have h1 := hB.size
  have h2 := hB4.size
  have hB5 : Below w4.heap.size w4 (w4.alloc (.cells #[.slice none 0 0, .int .i64 0, .bool false, .string ⟨#[]⟩] 30)) := (Below.refl _ _).alloc (Nat.le_refl _) _
  exact ⟨hd.below hB5, rd_new w4, fun j hj e => by have := hd.inn j hj; omega, fun j hj => by omega, (hB.trans (hB4.mono (by omega))).trans (hB5.mono (by omega)), hN, good_nil⟩

theorem SlX.of_ow {S : Nat → Prop} {N : Nat} {w : World} {v : Value} {l : List UInt8} (h : Ow N w v l) (hx : ∀ g, v.ownBlock = some g → ¬ S g) : SlX S w v l := by
  obtain ⟨a, cap, e, h1, h2, h3⟩ := h.sl (Nat.le_refl _)
  subst e
  refine ⟨a, cap, rfl, h1, h2, ?_⟩
  rcases h.2 with ⟨_, h0⟩ | ⟨g, cap', cur, hv, hg, hh, _⟩
  · exact .inl (List.length_eq_zero_iff.1 h0)
  · cases hv
    refine h3.imp id ?_
    rintro ⟨b, off, e, hb, hc⟩
    cases e
    exact ⟨g, 0, rfl, hx g rfl, hb, hc⟩
theorem SlX.anti {S T : Nat → Prop} {w : World} {v : Value} {l : List UInt8} (h : SlX S w v l) (hT : ∀ i, T i → S i) : SlX T w v l := by
  obtain ⟨a, cap, rfl, h1, h2, h3⟩ := h
  refine ⟨a, cap, rfl, h1, h2, h3.imp id ?_⟩
  rintro ⟨b, off, ha, hb, hr⟩
  exact ⟨b, off, ha, fun ht => hb (hT _ ht), hr⟩
theorem RDs.mono {S T : Nat → Prop} {w : World} {B : Nat} {p : PD} (h : RDs S w B p) (hT : ∀ i, S i → T i) (hi : ∀ i, T i → i < w.heap.size) : RDs T w B p := by
  obtain ⟨v, fs, l, h⟩ := h
  exact ⟨v, fs, l, h.rd, hT _ h.SB, fun g hg => hT _ (h.Sv g hg), fun f hf g hg => hT _ (h.Sf f hf g hg), hi, h.lt0⟩
theorem grown_none {w w' : World} (h : w.grownBy w' none) : Below w.heap.size w w' := ⟨h.os, h.tape, h.output, h.size, fun i hi => h.block i hi (by simp)⟩
theorem slx_new {S : Nat → Prop} (w : World) (l : List UInt8) (c : Array Value) (hl : 0 < l.length) (hm : l.length ≤ 1000) (hc : c.toList = l.map encB) (hS : ∀ i, S i → i < w.heap.size) : SlX S (w.alloc (.cells c 5)) (.slice (some ⟨w.heap.size, 0, none⟩) l.length l.length) l := by
  obtain ⟨a, cap, e, h1, h2, h3⟩ := sl_new w l c hl hm hc
  cases e
  refine ⟨_, _, rfl, h1, h2, h3.imp id ?_⟩
  rintro ⟨b, off, ha, hb, hcc⟩
  cases ha
  exact ⟨_, _, rfl, fun hs => by have := hS _ hs; omega, by simp, hcc⟩
theorem list_dsk {N : Nat} {S : Nat → Prop} {w : World} {d : Nat} {p : PD} (h : Dsk N w S d p) : Calls Try.prog 25 #[.pointer (some ⟨d, 0, none⟩)] w fun r w' => ∃ a c, r = .returned (.slice a p.fs.length c) ∧ TextsIn w.heap.size w' (.slice a p.fs.length c) (p.fs.map PF.nm) ∧ Below w.heap.size w w' := by
  obtain ⟨k, hk, rfl, hS⟩ := h
  refine (list_any hk).mono ?_
  rintro r w' ⟨v, rfl, hT, hB⟩
  have e : k.rs.map Rw.nm = k.pd.fs.map PF.nm := by
    show _ = (k.rs.map (Rw.pf k.last)).map PF.nm
    rw [List.map_map]; rfl
  rw [e] at hT
  obtain ⟨a, c, hv⟩ := row_shape hT
  rw [List.length_map] at hv
  subst hv
  exact ⟨a, c, rfl, hT, hB⟩
/-- Both append. -/
theorem Bth.app {N : Nat} {S1 S2 : Nat → Prop} {w0 w w5 w5' w6 : World} {d B : Nat} {p : PD} {nm b : List UInt8} {r : Ending} (h : Bth N S1 S2 w0 w d B p) (hT : Then N S1 w w5 d (doAppend p nm b).2) (hB5 : Below w5.heap.size w5 w5') (hR : RDone S2 w5' B (doAppend p nm b) r w6) : ∃ S3 S4, Bth N S3 S4 w0 w6 d B (doAppend p nm b).2 := by
  obtain ⟨-, hO, hR⟩ := hR
  have hs := hB5.size
  refine ⟨_, _, h.cd hT ((Out.of_below hB5).trans hO (fun i hi _ => hi)) (hR.mono (fun i hi => hi.imp id (fun h9 => ⟨by omega, h9.2⟩)) (fun i hi => ?_)) (good_told h.good ⟨1, 0, nm, [], none, 0, b⟩ (by show (0 : Int) < 9223372036854775808; omega) hT.dsk)⟩
  have hz := hO.size
  rcases hi with hi | hi
  · have := h.rds.inn i hi; have := hT.out.size; omega
  · exact hi.2
theorem rep_cells (mm : Nat) : (madeCells (Value.int .u8 0).cells (mm * 1)).toList = (List.replicate mm (0 : UInt8)).map encB := by
  rw [Nat.mul_one]
  show (madeCells #[.int .u8 0] mm).toList = _
  rw [toList_madeCells_one, List.map_replicate]
  rfl
theorem full_len (n : Int) : ∃ mm : Nat, wrap64 (16777216 + wrap64 ((wrap64 (n.tmod 5 + 5)).tmod 5 - 2)) = (mm : Int) ∧ mm ≤ 16777218 := by
  have h1 : n.tmod 5 < 5 := Int.tmod_lt_of_pos n (by omega)
  have h2 : -5 < n.tmod 5 := by
    have := Int.tmod_lt_of_pos (-n) (b := 5) (by omega)
    rw [Int.neg_tmod] at this
    omega
  obtain ⟨r, hr⟩ : ∃ r, n.tmod 5 = r := ⟨_, rfl⟩
  rw [hr] at h1 h2 ⊢
  have e1 : wrap64 (r + 5) = r + 5 := by have := IntKind.wrap_i64 (r + 5); unfold wrap64; omega
  have e2 : (r + 5).tmod 5 = (r + 5) % 5 := Int.tmod_eq_emod_of_nonneg (by omega)
  rw [e1, e2]
  have e3 : wrap64 ((r + 5) % 5 - 2) = (r + 5) % 5 - 2 := by unfold wrap64; omega
  rw [e3]
  have e4 : wrap64 (16777216 + ((r + 5) % 5 - 2)) = 16777216 + ((r + 5) % 5 - 2) := by unfold wrap64; omega
  rw [e4]
  exact ⟨(16777216 + ((r + 5) % 5 - 2)).toNat, by omega, by omega⟩

set_option maxRecDepth 100000 in
set_option maxHeartbeats 20000000 in
theorem diskFull_walk (a : Option Addr) (ca : Nat) (ts : List (List UInt8)) (n : Int) (w : World) (hts : TsAt w.heap.size w a ts) (hll : ts.length ≤ 9223372036854775807) :
    Calls Try.prog 5 #[.slice a ts.length ca, .int .i64 n] w fun e w' => e = .returned (.bool true) ∧ Below w.heap.size w w' := by
  have HTS : Hid (TsAt w.heap.size w a ts) := hts
  clear hts
  go_enter Try.func5, Try.ntmps5
  go_wp2_with fail
  refine (first_any w).mono ?_
  rintro e w1 ⟨rfl, hB1⟩
  have HB1 : Hid (Below w.heap.size w w1) := hB1
  by_cases h300 : (300 : Int) < (ts.length : Int)
  · clear hB1
    go_wp2
    go_ret
    exact ⟨rfl, HB1.out⟩
  have h300' : decide ((300 : Int) < (ts.length : Int)) = false := by simpa using h300
  clear hB1
  go_wp2_with fail
  refine (new_dsk w.heap.size w1 HB1.out.size).mono ?_
  rintro e w2 ⟨rfl, hd2, hB2⟩
  have hb0 := Bth.new HB1.out (Nat.le_refl _) hd2 hB2
  obtain ⟨d, hde⟩ : ∃ d, w1.heap.size + 1 = d := ⟨_, rfl⟩
  obtain ⟨B, hBe⟩ : ∃ B, w2.heap.size = B := ⟨_, rfl⟩
  have HB0 : Hid (∃ S1 S2, Bth w.heap.size S1 S2 w (w2.alloc (.cells #[.slice none 0 0, .int .i64 0, .bool false, .string ⟨#[]⟩] 30)) d B ⟨[], 0, false⟩) := by rw [hde, hBe] at hb0; exact ⟨_, _, hb0⟩
  rw [hde]
  clear hb0 hd2 hB2 hde
  go_wp2_with fail
  try rw [hBe]
  clear hBe
  go_loopw [8] (fun iv wr => ∃ (i : Nat) (S1 S2 : Nat → Prop) (q : PD), iv = .int .i64 (i : Int) ∧ i ≤ ts.length ∧ Bth w.heap.size S1 S2 w wr d B q) (fun iv _ => ts.length - (intOf iv).toNat)
  case atStart => obtain ⟨S1, S2, hb⟩ := HB0.out; exact ⟨0, S1, S2, _, rfl, Nat.zero_le _, hb⟩
  case round =>
    obtain ⟨i, S1, S2, q, rfl, hi, hb⟩ := hrel
    have HB : Hid (Bth w.heap.size S1 S2 w wr d B q) := hb
    by_cases hlt : i < ts.length
    · have hi0 : (0 : Int) ≤ (i : Int) := by omega
      have hi1 : (i : Int) < (ts.length : Int) := by omega
      obtain ⟨b, off, rfl, hbw, hc, hnl⟩ := HTS.out.at hb.bel hlt
      generalize ts.getD i [] = nm at *
      have hnl' : nm.length ≤ 9223372036854775807 := by unfold maxLen at hnl; exact hnl
      by_cases h40 : (40 : Int) < (nm.length : Int)
      · clear hb
        go_wp2
        exact ⟨⟨i + 1, S1, S2, q, by go_num, by omega, HB.out⟩, by simp [intOf]; omega⟩
      have h40' : decide ((40 : Int) < (nm.length : Int)) = false := by simpa using h40
      have HGD : Hid (∀ (S : Nat → Prop) (w' : World), Dsk w.heap.size w' S d (doCreate q nm).2 → Good (doCreate q nm).2) := fun S w' h9 => good_told HB.out.good ⟨0, 0, nm, [], none, 0, []⟩ (by show (0 : Int) < 9223372036854775808; omega) h9
      have hc1 := create_dsk hb.drew.dsk hb.drew.sz nm hnl _ rfl
      have hd1 := refCreate hb.drew.rds hb.good nm hnl
      have HCC : Hid (∀ w5, Then w.heap.size S1 wr.drew w5 d (doCreate q nm).2 → Calls Try.prog 20 #[.pointer (some ⟨B, 0, none⟩), .string ⟨nm.toArray⟩] w5 fun r w' => RDone S2 w5 B (doCreate q nm) r w') := fun w5 hT => refCreate (HB.out.drew.rds.out hT.out (fun j hj hk => HB.out.ap j hk hj)) HB.out.good nm hnl
      have HDD : Hid (∀ w5, Out S2 wr.drew w5 → Calls Try.prog 19 #[.pointer (some ⟨d, 0, none⟩), .string ⟨nm.toArray⟩] w5 fun r w' => r = .returned (.int .i64 ((doCreate q nm).1 : Int)) ∧ Then w.heap.size S1 w5 w' d (doCreate q nm).2) := fun w5 hO => create_dsk (HB.out.drew.dsk.out hO (fun j hj hk => HB.out.ap j hj hk)) (Nat.le_trans HB.out.drew.sz hO.size) nm hnl _ rfl
      obtain ⟨ee, hee⟩ : ∃ ee : Nat, (doCreate q nm).1 = ee := ⟨_, rfl⟩
      clear hb h40
      go_wp2_with fail
      go_region_held3 (fun w' => w'.cell? ⟨b, off + i, none⟩ = some (.string ⟨nm.toArray⟩)) (go_keep)
        (first
          | (go_at_call 18; refine (num_any _ _).mono ?_; rintro e wz ⟨rfl, hz⟩; subst wz)
          | (go_at_call 19; refine hc1.mono ?_; rintro e w5 ⟨rfl, hT5⟩; clear hd1 hc1; have hd2 := HCC.out w5 hT5; have kc : w5.cell? ⟨b, off + i, none⟩ = some (.string ⟨nm.toArray⟩) := (hT5.bel.cell (p := ⟨b, off + i, none⟩) hbw).trans hc)
          | (go_at_call 20; refine hd2.mono ?_; rintro e w6 ⟨rfl, hO6, hR6⟩; have HB6 : Hid (∃ S1 S2, Bth w.heap.size S1 S2 w w6 d B (doCreate q nm).2) := ⟨_, _, HB.out.drew.cd hT5 hO6 hR6 (HGD.out _ _ hT5.dsk)⟩; have kc6 : w6.cell? ⟨b, off + i, none⟩ = some (.string ⟨nm.toArray⟩) := (World.cell?_of_block (a := ⟨b, off + i, none⟩) (hO6.block b (by have := HB.out.sz; have := hT5.out.size; have h7 : wr.heap.size ≤ w5.heap.size := hT5.out.size; omega) (fun hs => by have := HB.out.fr b hs; omega))).trans kc)
          | (go_at_call 20; refine hd1.mono ?_; rintro e w5 ⟨rfl, hO5, hR5⟩; clear hc1 hd1; have hc2 := HDD.out w5 hO5; have kc : w5.cell? ⟨b, off + i, none⟩ = some (.string ⟨nm.toArray⟩) := (World.cell?_of_block (a := ⟨b, off + i, none⟩) (hO5.block b (by have := HB.out.sz; show b < wr.heap.size; omega) (fun hs => by have := HB.out.fr b hs; omega))).trans hc)
          | (go_at_call 19; refine hc2.mono ?_; rintro e w6 ⟨rfl, hT6⟩; have HB6 : Hid (∃ S1 S2, Bth w.heap.size S1 S2 w w6 d B (doCreate q nm).2) := ⟨_, _, HB.out.drew.dc hO5 hR5 hT6 (HGD.out _ _ hT6.dsk)⟩; have kc6 : w6.cell? ⟨b, off + i, none⟩ = some (.string ⟨nm.toArray⟩) := (hT6.bel.cell (p := ⟨b, off + i, none⟩) hbw).trans kc)
          | fail)
      all_goals (go_wp2; obtain ⟨S3, S4, hb6⟩ := HB6.out; exact ⟨⟨i + 1, S3, S4, _, by go_num, by omega, hb6⟩, by simp [intOf]; omega⟩)
    · have hge : decide ((i : Int) < (ts.length : Int)) = false := by simp; omega
      obtain ⟨v, fs, l, hro⟩ := hb.rds
      obtain ⟨va, vc, hv⟩ := row_shape hro.rd.fi.row
      have k0 := hro.rd.cells.1
      subst hv
      by_cases hz : fs.length = 0
      · have hz' : ((fs.length : Int) == 0) = true := by simp [hz]
        clear hb hro
        go_wp2
        go_ret
        exact ⟨rfl, HB.out.bel⟩
      have hz' : ((fs.length : Int) == 0) = false := by simp; intro e; exact hz (by rw [e]; rfl)
      have hz2 : (0 : Int) < (fs.length : Int) := by omega
      have hz3 : 0 < fs.length := by omega
      obtain ⟨g, gc, hv2, hg1, hg2, hgB, hat2, -, -⟩ := hro.rd.at hz3
      cases hv2
      obtain ⟨c0, -, -, -⟩ := hat2
      have hnl : (fs.getD 0 nilFl).nm.length ≤ maxLen := by
        obtain ⟨q', h1, h3, h4⟩ := look_at hro.rd.sy hz3 (rise_ne hb.good.rise)
        have h5 := isNm_len (hb.good.nms q' h3)
        simp only [Fl.says, PF.says, Prod.mk.injEq] at h4
        rw [← h4.1]
        unfold maxLen
        omega
      generalize (fs.getD 0 nilFl).nm = nm at *
      obtain ⟨mm, hmm, hmb⟩ := full_len n
      obtain ⟨i0, hi0, hiz, his, hib⟩ := info_parts info5
      have hsz := hb.sz
      clear hb hro hz
      go_wp2_with (first | (at_make; refine wpList_make_full _ rfl _ _ 32 rfl w.heap.size 5 i0 (.int .u8 0) 1 Try.underlying32 hi0 hiz his .i64 .i64 _ _ mm rfl rfl hmm hmm (by rw [hib]; omega) (by unfold maxLen; omega) hsz ?_; intro w8 hown8 hg8) | fail)
      have hB8 := grown_none hg8
      have hb8 := HB.out.below hB8
      have hO8 : Ow w.heap.size w8 (.slice (some ⟨wr.heap.size, 0, none⟩) mm mm) (List.replicate mm 0) := by
        unfold Ow
        rw [List.length_replicate, ← rep_cells]
        exact hown8
      have hsx : SlX (fun i => S1 i ∨ S2 i) w8 (.slice (some ⟨wr.heap.size, 0, none⟩) mm mm) (List.replicate mm 0) := SlX.of_ow hO8 (fun g hg hs => by
        simp only [Value.ownBlock, Option.some.injEq] at hg
        subst hg
        rcases hs with hs | hs
        · have := HB.out.dsk.inn _ hs; omega
        · have := HB.out.rds.inn _ hs; omega)
      have hap := code_op (X := fun p => doAppend p nm (List.replicate mm 0)) hb8.dsk hb8.sz (fun k hk hS => append_any hk nm hnl (some ⟨wr.heap.size, 0, none⟩) mm (List.replicate mm 0) (by rw [List.length_replicate]; exact hsx.anti (fun i hi => .inl hi)))
      rw [List.length_replicate] at hap
      have HB8 : Hid (Bth w.heap.size S1 S2 w w8 d B q) := hb8
      have HSX : Hid (SlX (fun i => S1 i ∨ S2 i) w8 (.slice (some ⟨wr.heap.size, 0, none⟩) mm mm) (List.replicate mm 0)) := hsx
      clear hown8 hg8 hB8 hb8 hO8 hsx
      go_wp2_with fail
      refine hap.mono ?_
      rintro e w9 ⟨rfl, hT9⟩
      have hda := refAppend (HB8.out.rds.out hT9.out (fun j hj hk => HB8.out.ap j hk hj)) HB8.out.good nm (some ⟨wr.heap.size, 0, none⟩) mm (List.replicate mm 0) (by rw [List.length_replicate]; exact (HSX.out.out (hT9.out.mono (fun i hi => .inl hi))).anti (fun i hi => .inr hi))
      rw [List.length_replicate] at hda
      have HT9 : Hid (Then w.heap.size S1 w8 w9 d (doAppend q nm (List.replicate mm 0)).2) := hT9
      clear hT9 hap
      go_wp2_with fail
      refine hda.mono ?_
      rintro e w10 hR10
      obtain ⟨S3, S4, hb10⟩ := HB8.out.app HT9.out (Below.refl _ _) hR10
      obtain ⟨rfl, -, -⟩ := hR10
      generalize doAppend q nm (List.replicate mm 0) = xx at *
      obtain ⟨ee, q2⟩ := xx
      simp only at hb10
      have HB10 : Hid (Bth w.heap.size S3 S4 w w10 d B q2) := hb10
      clear hda hb10 HT9 HSX HB8
      have hap := append_dsk HB10.out.dsk HB10.out.sz nm hnl [1] #[.int .u8 1] (by decide) (by decide) rfl _ rfl
      have HB11 : Hid (Below w10.heap.size w10 (w10.alloc (.cells #[.int .u8 1] 5))) := (Below.refl _ _).alloc (Nat.le_refl _) _
      go_wp2_with fail
      refine hap.mono ?_
      rintro e w12 ⟨rfl, hT12⟩
      have HT12 : Hid (Then w.heap.size S3 (w10.alloc (.cells #[.int .u8 1] 5)) w12 d (doAppend q2 nm [1]).2) := hT12
      have HB13 : Hid (Below w12.heap.size w12 (w12.alloc (.cells #[.int .u8 1] 5))) := (Below.refl _ _).alloc (Nat.le_refl _) _
      have hrd := ((HB10.out.below HB11.out).rds.out hT12.out (fun j hj hk => HB10.out.ap j hk hj)).out (X := fun _ => False) (Out.of_below HB13.out) (fun _ _ hf => hf)
      have hda := refAppend hrd HB10.out.good nm (some ⟨w12.heap.size, 0, none⟩) 1 [1] (slx_new w12 [1] #[.int .u8 1] (by decide) (by decide) rfl (fun i hi => by have h7 := HB10.out.rds.inn i hi; have h8 := hT12.out.size; rw [World.size_alloc] at h8; omega))
      clear hT12 hap hrd
      go_wp2_with fail
      refine hda.mono ?_
      rintro e w14 hR14
      obtain ⟨S5, S6, hb14⟩ := (HB10.out.below HB11.out).app HT12.out HB13.out hR14
      obtain ⟨rfl, -, -⟩ := hR14
      generalize doAppend q2 nm [1] = xx at *
      obtain ⟨ee2, q3⟩ := xx
      simp only at hb14
      have HBE : Hid (Below w.heap.size w w14) := hb14.bel
      obtain ⟨v, fs3, l3, hro⟩ := hb14.rds
      obtain ⟨va, vc3, hv⟩ := row_shape hro.rd.fi.row
      subst hv
      have hle : fs3.length = q3.fs.length := hro.rd.len
      have HD : Hid (∀ w', Below w14.heap.size w14 w' → Dsk w.heap.size w' S5 d q3) := fun w' hB => hb14.dsk.below hB
      have HR : Hid (∀ w', Below w14.heap.size w14 w' → RD 0 w' B q3 (.slice va fs3.length vc3) fs3 l3) := fun w' hB => hro.rd.out (X := fun _ => False) (Out.of_below hB) (fun h => h) (fun _ _ h => h) (fun _ _ _ _ h => h)
      have hb := (Below.refl w14.heap.size w14).trans (show Below w14.heap.size w14 w14.drew from ⟨rfl, rfl, rfl, Nat.le_refl _, fun _ _ => rfl⟩)
      have m0 := (HR.out _ hb).cells.1
      have hnn := (HD.out _ hb).shape.2.2.1
      clear hda hb14 hro HT12 HB10 HB11 HB13
      rw [hle] at m0
      have m1 : w14.cell? ⟨B, 0, none⟩ = some (.slice va q3.fs.length vc3) := m0
      have HLE : Hid (fs3.length = q3.fs.length) := hle
      clear hle m0
      go_wp2_with fail
      go_region_held3 (fun w' => w'.cell? ⟨B, 0, none⟩ = some (.slice va q3.fs.length vc3)) (go_keep)
        (first
          | (go_at_call 18; refine (num_any _ _).mono ?_; rintro e wz ⟨rfl, hz⟩; subst wz)
          | (go_at_call 23; refine (size_dsk (HD.out _ hb)).mono ?_; rintro e w15 ⟨rfl, hB15⟩; replace hb := hb.trans (hB15.mono hb.size); clear hB15; have m15 := (HR.out _ hb).cells.1; rw [HLE.out] at m15)
          | (go_at_call 24; refine (refSize_any (HR.out _ hb)).mono ?_; rintro e wz ⟨rfl, hz⟩; subst wz)
          | (go_at_call 25; refine (list_dsk (HD.out _ hb)).mono ?_; rintro e w16 ⟨ta, tc, rfl, -, hB16⟩; replace hb := hb.trans (hB16.mono hb.size); clear hB16; have m16 := (HR.out _ hb).cells.1; rw [HLE.out] at m16)
          | fail)
      all_goals (go_wp2; go_ret; exact ⟨by simp, HBE.out.trans (hb.mono HBE.out.size)⟩)
end Go.Proofs.Ytbjnhohfdpdcnaa
