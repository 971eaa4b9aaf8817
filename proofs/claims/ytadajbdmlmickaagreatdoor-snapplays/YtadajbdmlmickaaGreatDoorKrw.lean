/-
  SnapPlays: the walk of the law. Operations that came in, none too great for any machine.
-/
import Derived.Test.YtadajbdmlmickaaGreatDoorDsv
import Derived.Test.YtadajbdmlmickaaGreatDoorFi
import Derived.Test.YtadajbdmlmickaaGreatDoorSi
import Derived.Test.YtadajbdmlmickaaGreatDoorRi6
import Derived.SizedLaws
namespace Go.Proofs.YtadajbdmlmickaaGreatDoor
open Go.RowKit Go.Shelf
set_option linter.unusedVariables false

/-- No operation's bytes are too many. -/
def SopsSmall (l : List Sop) : Prop := ∀ i, i < l.length → (l.getD i nilSop).s.d.length ≤ 140737488351232 ∧ (l.getD i nilSop).d.b.length ≤ 140737488351232
theorem dsx_any {N : Nat} {S1 S2 : Nat → Prop} {w0 w : World} {d B : Nat} {p : PD} (h : Bth N S1 S2 w0 w d B p) (hv : ∀ V, Below N w0 V → Vars V) (o : Sop) (hn : o.n ≤ 9223372036854775807) (hs : Sl N w (.slice o.s.a o.s.d.length o.s.c) o.s.d) (hsm : o.s.d.length ≤ 140737488351232) (hd : Sl N w o.d.x o.d.b) (h1 : o.d.nm.length ≤ maxLen) (h2 : o.d.to.length ≤ maxLen) (h3 : o.d.n < 9223372036854775808) (hbl : o.d.b.length ≤ 140737488351232) :
    Calls Tryz.prog 11 #[.pointer (some ⟨d, 0, none⟩), .pointer (some ⟨B, 0, none⟩), .agg #[.int .i64 o.kd, .int .i64 o.n, .int .i64 o.s.i, .int .i64 o.s.t, .slice o.s.a o.s.d.length o.s.c, .int .i64 o.d.kd, .int .i64 o.d.n, .string ⟨o.d.nm.toArray⟩, .string ⟨o.d.to.toArray⟩, .slice o.d.a o.d.b.length o.d.c]] w fun r w' => r = .returned (.bool true) ∧ ∃ S3 S4, Bth N S3 S4 w0 w' d B (sopP p o) := by
  obtain ⟨kd, n, ⟨i, t, sa, sc, m⟩, ⟨okd, on, onm, ot, oa, oc, ob⟩⟩ := o
  unfold Opn.x at hd
  simp only at hn hs hsm hd h1 h2 h3 hbl ⊢
  by_cases k0 : kd = 0
  · subst k0; exact dsx_0 h n i t sa sc m okd on onm ot oa oc ob hv hs hsm
  by_cases k1 : kd = 1
  · subst k1; exact dsx_1 h n i t sa sc m okd on onm ot oa oc ob hn hv
  by_cases k2 : kd = 2
  · subst k2; exact dsx_2 h n i t sa sc m okd on onm ot oa oc ob hn
  by_cases k3 : kd = 3
  · subst k3; exact dsx_3 h n i t sa sc m okd on onm ot oa oc ob hn
  have e : sopP p ⟨kd, n, ⟨i, t, sa, sc, m⟩, ⟨okd, on, onm, ot, oa, oc, ob⟩⟩ = (toldP p ⟨okd, on, onm, ot, oa, oc, ob⟩).2 := by
    unfold sopP
    simp only [k0, k1, k2, k3, if_false]
  rw [e]
  exact dsx_else h n i t sa sc m okd on onm ot oa oc ob kd ⟨k0, k1, k2, k3⟩ hd h1 h2 h3 hbl
set_option maxRecDepth 100000 in
set_option maxHeartbeats 20000000 in
theorem plays_walk (a : Option Addr) (ca : Nat) (l : List Sop) (w : World) (hv : ∀ V, Below w.heap.size w V → Vars V) (hl : SopsAt w.heap.size w a l) (hll : l.length ≤ 9223372036854775807) (hsm : SopsSmall l) :
    Calls Tryz.prog 3 #[.slice a l.length ca] w fun e w' => e = .returned (.bool true) ∧ Below w.heap.size w w' := by
  have HL : Hid (SopsAt w.heap.size w a l) := hl
  have HSM : Hid (SopsSmall l) := hsm
  have HV : Hid (∀ V, Below w.heap.size w V → Vars V) := hv
  have HF : Hid (Calls _ _ _ _ _) := first_s w hv
  clear hl hsm hv
  go_enter Tryz.func3, Tryz.ntmps3
  go_wp2_with fail
  refine HF.out.mono ?_
  rintro e w1 ⟨rfl, hB1⟩
  go_wp2_with fail
  refine (few6_any a ca l w.heap.size w1 (by rcases HL.out with h | ⟨b, off, h1, h2, h3⟩; exact .inl h; exact .inr ⟨b, off, h1, h2, fun i hi => (h3 i hi).below h2 hB1⟩) hB1.size hll).mono ?_
  rintro e w2 ⟨rfl, hB2⟩
  have HB2 : Hid (Below w.heap.size w w2) := hB1.trans (hB2.mono hB1.size)
  clear hB1 hB2 HF
  obtain ⟨b1, hb1⟩ : ∃ b1, (decide (l.length ≤ 100) && decide (totS l ≤ 20000)) = b1 := ⟨_, rfl⟩
  rw [hb1]
  clear hb1
  cases b1 with
  | false =>
    go_wp2
    go_ret
    exact ⟨rfl, HB2.out⟩
  | true =>
  go_wp2_with fail
  refine (new_dsk w.heap.size w2 HB2.out.size).mono ?_
  rintro e w3 ⟨rfl, hd3, hB3⟩
  have hb0 := Bth.new HB2.out (Nat.le_refl _) hd3 hB3
  obtain ⟨d, hde⟩ : ∃ d, w2.heap.size + 1 = d := ⟨_, rfl⟩
  obtain ⟨B, hBe⟩ : ∃ B, w3.heap.size = B := ⟨_, rfl⟩
  have HB0 : Hid (∃ S1 S2 q, Bth w.heap.size S1 S2 w (w3.alloc (.cells #[.slice none 0 0, .int .i64 0, .bool false, .string ⟨#[]⟩] 30)) d B q) := by rw [hde, hBe] at hb0; exact ⟨_, _, _, hb0⟩
  rw [hde]
  clear hb0 hd3 hB3 hde
  go_wp2_with fail
  try rw [hBe]
  clear hBe
  go_loopw [7] (fun iv wr => ∃ (i : Nat) (S1 S2 : Nat → Prop) (q : PD), iv = .int .i64 (i : Int) ∧ i ≤ l.length ∧ Bth w.heap.size S1 S2 w wr d B q) (fun iv _ => l.length - (intOf iv).toNat)
  case atStart => obtain ⟨S1, S2, q, hb⟩ := HB0.out; exact ⟨0, S1, S2, q, rfl, Nat.zero_le _, hb⟩
  case round =>
    obtain ⟨i, S1, S2, q, rfl, hi, hb⟩ := hrel
    have HB : Hid (Bth w.heap.size S1 S2 w wr d B q) := hb
    by_cases hlt : i < l.length
    · have hi0 : (0 : Int) ≤ (i : Int) := by omega
      have hi1 : (i : Int) < (l.length : Int) := by omega
      obtain ⟨bb, off, rfl, hbb, ho⟩ := HL.out.at hlt
      obtain ⟨⟨c0, c1⟩, ⟨⟨c2, c3, c4⟩, s4⟩, ⟨⟨c5, c6, c7, c8, c9⟩, s9, q1, q2, q3⟩, hnn⟩ := ho.below hbb hb.bel
      have hda := dsx_any hb HV.out (l.getD i nilSop) hnn.2 s4 (HSM.out i hlt).1 s9 q1 q2 q3 (HSM.out i hlt).2
      generalize l.getD i nilSop = o at *
      obtain ⟨kd, n, ⟨si, st, sa, sc, m⟩, ⟨okd, on, onm, ot, oa, oc, ob⟩⟩ := o
      unfold Opn.x at c9
      simp only at c0 c1 c2 c3 c4 c5 c6 c7 c8 c9 hda
      clear ho q1 q2 q3 hb s4 s9 hnn
      go_upto_region 11 with (go_at_call 11; refine hda.mono ?_; rintro e w6 ⟨rfl, S3, S4, hb6⟩)
      generalize sopP q ⟨kd, n, ⟨si, st, sa, sc, m⟩, ⟨okd, on, onm, ot, oa, oc, ob⟩⟩ = q6 at *
      have HB6 : Hid (Bth w.heap.size S3 S4 w w6 d B q6) := hb6
      have HVB : Hid (∀ V, Below w6.heap.size w6 V → Vars V) := fun V hV => HV.out V (hb6.bel.trans (hV.mono hb6.sz))
      obtain ⟨x, hx⟩ : ∃ x, loadS q6 = x := ⟨_, rfl⟩
      have HLD : Hid (Calls Tryz.prog 12 #[.pointer (some ⟨d, 0, none⟩)] w6 fun r w' => LdR w6 x r w') := by show Calls _ _ _ _ _; rw [← hx]; exact load_any hb6.dsk HVB.out
      have HRL : Hid (∀ V, Below w6.heap.size w6 V → Calls Tryz.prog 13 #[.pointer (some ⟨B, 0, none⟩)] V fun r w' => LdS V x r w') := fun V hV => by rw [← hx]; exact refLoad_any (HB6.out.below hV).rds HB6.out.good
      have HLI : Hid (∀ V, Below w6.heap.size w6 V → Calls Tryz.prog 16 #[.pointer (some ⟨d, 0, none⟩)] V fun r w' => ∃ a c, r = .returned (.slice a (listP q6).length c) ∧ In.Ow V.heap.size w' (.slice a (listP q6).length c) (ixI (listP q6)) ∧ Below V.heap.size V w') := fun V hV => list_s (HB6.out.below hV).dsk (fun V' hV' => HVB.out V' (hV.trans (hV'.mono hV.size)))
      have HRI : Hid (∀ V, Below w6.heap.size w6 V → Calls Tryz.prog 17 #[.pointer (some ⟨B, 0, none⟩)] V fun r w' => ∃ a c, r = .returned (.slice a (listP q6).length c) ∧ In.Ow V.heap.size w' (.slice a (listP q6).length c) (ixI (listP q6)) ∧ Below V.heap.size V w') := fun V hV => refListS (HB6.out.below hV).rds HB6.out.good
      have HSW : Hid (∀ V, Below w6.heap.size w6 V → Calls Tryz.prog 19 #[.pointer (some ⟨d, 0, none⟩), .pointer (some ⟨B, 0, none⟩)] V fun r w' => r = .returned (.bool true) ∧ Below V.heap.size V w') := fun V hV => same_walk (HB6.out.below hV)
      obtain ⟨⟨s0, s1, s2⟩, k, er⟩ := x
      generalize listP q6 = li at *
      clear hb6 hda c0 c1 c2 c3 c4 c5 c6 c7 c8 c9 hx
      go_upto_region 12 with (go_at_call 12; refine HLD.out.mono ?_; rintro r w7 ⟨u7, rfl, hO7, hB7⟩; obtain ⟨ua, uc, hsh, -, -⟩ := hO7.shape; subst hsh; have HS7 : Hid (Sl w7.heap.size w7 (.slice ua s2.length uc) s2) := hO7.sl (Nat.le_refl _); have HB7 : Hid (Below w6.heap.size w6 w7) := hB7; have HB7a : Hid (∀ o, Below w6.heap.size w6 (w7.alloc o)) := (fun o => hB7.alloc hB7.size o); clear hO7 hB7)
      clear HLD
      generalize hW8 : w7.alloc _ = W8
      have h8 : W8.heap[w7.heap.size]? = some (.cells #[.int .i64 (s0 : Int), .int .i64 (s1 : Int), .slice ua s2.length uc] 34 (0, 0)) := by rw [← hW8]; exact heap_alloc_new w7 _
      have HB8 : Hid (Below w6.heap.size w6 W8) := by show Below _ _ _; rw [← hW8]; exact HB7a.out _
      have HS8 : Hid (Sl W8.heap.size W8 (.slice ua s2.length uc) s2) := by show Sl _ _ _ _; rw [← hW8]; exact (HS7.out.below ((Below.refl _ _).alloc (Nat.le_refl _) _)).mono (by simp)
      have hz8 : w7.heap.size < W8.heap.size := (Array.getElem?_eq_some_iff.1 h8).1
      have HRL8 := HRL.out W8 HB8.out
      have H8 : Hid (W8.heap[w7.heap.size]? = _) := h8
      clear hW8 h8 HB7a HB7 HS7 HRL
      go_upto_region 13 with (go_at_call 13; refine HRL8.mono ?_; rintro r w9 ⟨u9, rfl, hO9, hB9⟩; obtain ⟨va, vc, hsh, hq1, hq2⟩ := id hO9; subst hsh; have HS9 : Hid (Sl w9.heap.size w9 (.slice va s2.length vc) s2) := hO9; have HS9a : Hid (Sl w9.heap.size w9 (.slice ua s2.length uc) s2) := (HS8.out.below hB9).mono hB9.size; have HB9 : Hid (Below w6.heap.size w6 w9) := HB8.out.trans (hB9.mono HB8.out.size); have H9 : Hid (w9.heap[w7.heap.size]? = some (.cells #[.int .i64 (s0 : Int), .int .i64 (s1 : Int), .slice ua s2.length uc] 34 (0, 0))) := (hB9.block _ hz8).trans H8.out; clear hO9 hB9 hq1 hq2)
      clear HRL8
      generalize hW10 : w9.alloc _ = W10
      have hA10 : Below w9.heap.size w9 W10 := by rw [← hW10]; exact (Below.refl _ _).alloc (Nat.le_refl _) _
      have h10 : W10.heap[w9.heap.size]? = some (.cells #[.int .i64 (s0 : Int), .int .i64 (s1 : Int), .slice va s2.length vc] 34 (0, 0)) := by rw [← hW10]; exact heap_alloc_new w9 _
      have h10b := (hA10.block _ (Array.getElem?_eq_some_iff.1 H9.out).1).trans H9.out
      obtain ⟨⟨a0, a1, a2⟩, -⟩ := Cd.cells3 h10
      obtain ⟨⟨b0, b1, b2⟩, -⟩ := Cd.cells3 h10b
      have HB10 : Hid (Below w6.heap.size w6 W10) := HB9.out.trans (hA10.mono HB9.out.size)
      have HSS := Cd.sameSnap_any s0 s1 ua uc s2 s0 s1 va vc s2 w9.heap.size W10 (show Cd.Sl _ _ _ _ from HS9a.out.below hA10) (show Cd.Sl _ _ _ _ from HS9.out.below hA10) hA10.size
      have hsv : (decide (s2 = s2) && ((s0 : Int) == (s0 : Int)) && ((s1 : Int) == (s1 : Int))) = true := by simp
      rw [hsv] at HSS
      clear hW10 hA10 h10 h10b H8 H9 HS8 HS9 HS9a hsv HB9
      go_upto_region 14 with (go_at_call 14; refine HSS.mono ?_; rintro r w11 ⟨rfl, hB11⟩; have HB11 : Hid (Below w6.heap.size w6 w11) := HB10.out.trans (hB11.mono HB10.out.size); clear hB11)
      clear HSS a0 a1 a2 b0 b1 b2
      have HLI1 := HLI.out w11 HB11.out
      have hle : (ixI li).length = li.length := by simp [ixI]
      go_upto_region 15 with (first
        | (go_at_call 16; refine HLI1.mono ?_; rintro r w12 ⟨la, lc, rfl, hO12, hB12⟩; have HB12 : Hid (Below w6.heap.size w6 w12) := HB11.out.trans (hB12.mono HB11.out.size); have HO12 : Hid (In.Ow w11.heap.size w12 (.slice la li.length lc) (ixI li)) := hO12; have HRI1 := HRI.out w12 HB12.out; clear hO12 hB12)
        | (go_at_call 17; refine HRI1.mono ?_; rintro r w13 ⟨ma, mc, rfl, hO13, hB13⟩; have HB13 : Hid (Below w6.heap.size w6 w13) := HB12.out.trans (hB13.mono HB12.out.size); have HSI := In.same_any w13.heap.size (.slice la li.length lc) (.slice ma li.length mc) (ixI li) (ixI li) w13 ((HO12.out.below hB13 (Nat.le_refl _)).sl (Nat.le_refl _)) (hO13.sl (Nat.le_refl _)); rw [decide_eq_true (rfl : ixI li = ixI li)] at HSI; clear hO13 hB13)
        | (go_at_call 15; refine HSI.mono ?_; rintro r w14 ⟨rfl, n14, hw14⟩; have HB14 : Hid (Below w6.heap.size w6 w14) := (by show Below _ _ _; rw [hw14]; exact HB13.out.trans ⟨rfl, rfl, rfl, Nat.le_refl _, fun _ _ => rfl⟩); clear hw14))
      have HSW1 := HSW.out w14 HB14.out
      have HNU := num_any
      clear hle
      go_wp2_with (first
        | (go_at_call 18; refine (HNU _ _).mono ?_; rintro r wz ⟨rfl, hz⟩; subst wz)
        | (go_at_call 19; refine HSW1.mono ?_; rintro r w15 ⟨rfl, hB15⟩; have HB15 : Hid (Below w6.heap.size w6 w15) := HB14.out.trans (hB15.mono HB14.out.size); clear hB15))
      exact ⟨⟨i + 1, S3, S4, q6, by go_num, by omega, HB6.out.below HB15.out⟩, by simp [intOf]; omega⟩
    · have hge : decide ((i : Int) < (l.length : Int)) = false := by simp; omega
      clear hb
      go_wp2
      go_ret
      exact ⟨rfl, HB.out.bel⟩
end Go.Proofs.YtadajbdmlmickaaGreatDoor
namespace Go.Proofs.YtadajbdmlmickaaGreatDoor
open Go.ChangeShapes Go.WideShapes Go.ChangeAt Go.RowKit
set_option linter.unusedVariables false

theorem mem_weightsAll {H : Type} {P : Program} {e : TypeId} {d : DataW H} : ∀ {l : List (DataW H)}, d ∈ l → ∀ {m : Nat}, m ∈ d.weights P e → m ∈ DataW.weightsAll P e l
  | [], h, _, _ => by simp at h
  | x :: r, h, m, hm => by
    simp only [DataW.weightsAll, List.mem_append]
    rcases List.mem_cons.1 h with rfl | h
    · exact .inl hm
    · exact .inr (mem_weightsAll h hm)
theorem bytes_small {H : Type} {enc : TypeId × Value → H} {W : World} {n : Nat} {v : Value} {x : DataW H × List MemPlace} {a : Option Addr} {m c : Nat} (h : DataW.trod enc Tryz.prog W 0 (fun _ => true) true n 32 [v] = some x) (hw : ∀ m ∈ x.1.weights Tryz.prog 32, m ≤ reachBytes) (hv : v = .slice a m c) : m ≤ 140737488351232 := by
  rcases open_ints Tryz.underlying32 Tryz.underlying5 (by kernel_rfl) h with ⟨hcs, _⟩ | ⟨x, l, c, zs, hcs, _, hl, hm, hz, hxz, hcell, hwz⟩
  · simp at hcs
    rw [hv] at hcs
    cases hcs
    exact Nat.zero_le _
  · simp at hcs
    rw [hv] at hcs
    cases hcs
    have hb5 : Tryz.prog.bytesOf 5 = 1 := by kernel_rfl
    have h9 := hw ((lits .u8 (zs.take m)).length + (lits .u8 (zs.drop m)).length) (by
      rw [hxz]
      simp only [DataW.weights, Tryz.underlying32, hb5, Nat.mul_one]
      exact List.mem_cons_self)
    have h8 : (lits (H := H) .u8 (zs.take m)).length = m := by
      have hzl : m ≤ zs.length := by simp at hz; omega
      simp [lits]
      omega
    rw [h8] at h9
    unfold reachBytes at h9
    omega
set_option maxRecDepth 100000 in
theorem snp_small {H : Type} {enc : TypeId × Value → H} {W : World} {n : Nat} {cs : List Value} {x : DataW H × List MemPlace} {q0 q1 : Value} {a : Option Addr} {m c : Nat} (hlen : cs.length = 3) (hw : ∀ m ∈ x.1.weights Tryz.prog 34, m ≤ reachBytes) (h : DataW.trod enc Tryz.prog W 0 (fun _ => true) true n 34 cs = some x) (hcs : cs = [q0, q1, .slice a m c]) : m ≤ 140737488351232 := by
  obtain ⟨f0, f1, f2, hu, ⟨o0, o1, o2⟩, t0, t1, t2⟩ := underO
  obtain ⟨xs, k, _, hxy, _, hxl, hf⟩ := DataW.trod_struct hu h
  obtain ⟨y0, y1, y2, rfl⟩ := list3 hxl
  subst hcs
  have hwl : ∀ m ∈ y2.1.weights Tryz.prog 32, m ≤ reachBytes := fun m hm => by
    refine hw m ?_
    rw [hxy]
    simp only [DataW.weights, hu]
    have e : (#[f0, f1, f2] : Array Field).toList.map (·.type) = [3, 3, 32] := by simp [t0, t1, t2]
    rw [e]
    simp only [List.map_cons, List.map_nil, DataW.weightsEach, List.mem_append]
    exact .inr (.inr (.inl hm))
  have g := hf 2 f2 rfl
  rw [o2, t2, cellsOfB] at g
  simp at g
  exact bytes_small g hwl rfl
set_option maxRecDepth 100000 in
theorem op_small {H : Type} {enc : TypeId × Value → H} {W : World} {n : Nat} {cs : List Value} {x : DataW H × List MemPlace} {q0 q1 q2 q3 : Value} {a : Option Addr} {m c : Nat} (hlen : cs.length = 5) (hw : ∀ m ∈ x.1.weights Tryz.prog 36, m ≤ reachBytes) (h : DataW.trod enc Tryz.prog W 0 (fun _ => true) true n 36 cs = some x) (hcs : cs = [q0, q1, q2, q3, .slice a m c]) : m ≤ 140737488351232 := by
  obtain ⟨f0, f1, f2, f3, f4, hu, ⟨o0, o1, o2, o3, o4⟩, t0, t1, t2, t3, t4⟩ := underP
  obtain ⟨xs, k, _, hxy, _, hxl, hf⟩ := DataW.trod_struct hu h
  obtain ⟨y0, y1, y2, y3, y4, rfl⟩ := list5 hxl
  subst hcs
  have hwl : ∀ m ∈ y4.1.weights Tryz.prog 32, m ≤ reachBytes := fun m hm => by
    refine hw m ?_
    rw [hxy]
    simp only [DataW.weights, hu]
    have e : (#[f0, f1, f2, f3, f4] : Array Field).toList.map (·.type) = [3, 3, 9, 9, 32] := by simp [t0, t1, t2, t3, t4]
    rw [e]
    simp only [List.map_cons, List.map_nil, DataW.weightsEach, List.mem_append]
    exact .inr (.inr (.inr (.inr (.inl hm))))
  have g := hf 4 f4 rfl
  rw [o4, t4, cellsOfB] at g
  simp at g
  exact bytes_small g hwl rfl
set_option maxRecDepth 100000 in
theorem inSopsB {H : Type} {enc : TypeId × Value → H} {W : World} {n : Nat} {v : Value} {x : DataW H × List MemPlace} (hw : ∀ m ∈ x.1.weights Tryz.prog 22, m ≤ reachBytes) (h : DataW.trod enc Tryz.prog W 0 (fun _ => true) true n 22 [v] = some x) :
    ∃ (ea : Option Addr) (ec : Nat) (es : List Sop), v = .slice ea es.length ec ∧ SopsAt W.heap.size W ea es ∧ es.length ≤ 9223372036854775807 ∧ SopsSmall es := by
  rcases Deep.open_slice Tryz.underlying22 h with ⟨hcs, _⟩ | ⟨x, l, c, m, n, E, Pl, hcs, _, hl, hm, hmm, hx, hcell⟩
  · simp at hcs
    exact ⟨none, 0, [], hcs, .inl rfl, Nat.zero_le _, fun i hi => by simp at hi⟩
  · simp at hcs
    have hlm : l ≤ 9223372036854775807 := by have := hm; unfold maxLen at this; omega
    by_cases hz : l = 0
    · subst hz; exact ⟨some x, c, [], hcs, .inl rfl, Nat.zero_le _, fun i hi => by simp at hi⟩
    · have hml : l ≤ m := by rw [hmm]; split <;> omega
      obtain ⟨b, off, spot⟩ := x
      have hspot : spot = none := by
        obtain ⟨cs', hc', -⟩ := hcell 0 (by omega)
        rw [cellsOfQ] at hc'
        obtain ⟨_, hlen, hc⟩ := World.cells?_some hc'
        have h00 := hc 0 (by omega)
        rw [List.getElem?_eq_getElem (by omega)] at h00
        simpa [Addr.add] using World.cell?_spot h00
      subst hspot
      have each : ∀ i, i < l → ∃ e : Sop, SopAt W.heap.size W b (off + i * 10) e ∧ e.s.d.length ≤ 140737488351232 ∧ e.d.b.length ≤ 140737488351232 := by
        intro i hi
        have hwE : ∀ m ∈ (E i).weights Tryz.prog 38, m ≤ reachBytes := fun m hm => hw m (by
          rw [hx]
          simp only [DataW.weights, Tryz.underlying22]
          refine List.mem_cons_of_mem _ (List.mem_append.2 (.inl (mem_weightsAll (d := E i) ?_ hm)))
          exact List.mem_map_of_mem (List.mem_range.2 hi))
        obtain ⟨cs', hc', ht⟩ := hcell i (by omega)
        rw [cellsOfQ, Addr.add_lit] at hc'
        obtain ⟨_, hlen, hc⟩ := World.cells?_some hc'
        obtain ⟨f0, f1, f2, f3, hu, ⟨o0, o1, o2, o3⟩, t0, t1, t2, t3⟩ := underQ
        obtain ⟨xs, k, _, hxy, _, hxl, hf⟩ := DataW.trod_struct hu ht
        obtain ⟨v0, v1, v2, v3, v4, v5, v6, v7, v8, v9, rfl⟩ := list10 hlen
        obtain ⟨y0, y1, y2, y3, rfl⟩ := list4 hxl
        have hxy' : E i = .agg [y0.1, y1.1, y2.1, y3.1] := by have := congrArg Prod.fst hxy; simpa using this
        have et : (#[f0, f1, f2, f3] : Array Field).toList.map (·.type) = [3, 3, 34, 36] := by simp [t0, t1, t2, t3]
        have hw2 : ∀ m ∈ y2.1.weights Tryz.prog 34, m ≤ reachBytes := fun m hm => by
          refine hwE m ?_
          rw [hxy']
          simp only [DataW.weights, hu]
          rw [et]
          simp only [DataW.weightsEach, List.mem_append]
          exact .inr (.inr (.inl hm))
        have hw3 : ∀ m ∈ y3.1.weights Tryz.prog 36, m ≤ reachBytes := fun m hm => by
          refine hwE m ?_
          rw [hxy']
          simp only [DataW.weights, hu]
          rw [et]
          simp only [DataW.weightsEach, List.mem_append]
          exact .inr (.inr (.inr (.inl hm)))
        have g0 := hf 0 f0 rfl
        rw [o0, t0, cellsOfI] at g0
        have g1 := hf 1 f1 rfl
        rw [o1, t1, cellsOfI] at g1
        have g2 := hf 2 f2 rfl
        rw [o2, t2, cellsOfO] at g2
        have g3 := hf 3 f3 rfl
        rw [o3, t3, cellsOfP] at g3
        simp at g0 g1 g2 g3
        obtain ⟨z0, e0, -, -⟩ := DataW.trod_int Tryz.underlying3 g0
        simp at e0
        subst e0
        obtain ⟨z1, e1, -, hw1⟩ := DataW.trod_int Tryz.underlying3 g1
        simp at e1
        subst e1
        obtain ⟨s, es, hs⟩ := inSnp (by rfl) g2
        obtain ⟨o, eo, ho⟩ := inOp (by rfl) g3
        have hss := snp_small (by rfl) hw2 g2 es
        have hos := op_small (by rfl) hw3 g3 (by unfold Opn.x at eo; exact eo)
        have hb1 := bounds_i64 hw1
        have hcc : ∀ j, j < 10 → W.cell? ⟨b, off + i * 10 + j, none⟩ = [Value.int .i64 z0, .int .i64 z1, v2, v3, v4, v5, v6, v7, v8, v9][j]? := fun j hj => by have := hc j hj; rwa [Addr.add_lit] at this
        simp only [List.cons.injEq, and_true] at es
        obtain ⟨rfl, rfl, rfl⟩ := es
        refine ⟨⟨z0, z1, s, o⟩, ⟨⟨hcc 0 (by omega), hcc 1 (by omega)⟩, ⟨⟨hcc 2 (by omega), hcc 3 (by omega), hcc 4 (by omega)⟩, hs⟩, op_cells eo (fun j hj => ?_) ho, by show _ ≤ z1; omega, by show z1 ≤ _; omega⟩, hss, hos⟩
        have := hcc (5 + j) (by omega)
        rw [show off + i * 10 + 5 + j = off + i * 10 + (5 + j) by omega, this]
        have hj5 : j = 0 ∨ j = 1 ∨ j = 2 ∨ j = 3 ∨ j = 4 := by omega
        rcases hj5 with rfl | rfl | rfl | rfl | rfl <;> rfl
      have inh : Inhabited Sop := ⟨nilSop⟩
      obtain ⟨D, hD⟩ := Deep.choose_lt each
      have hlt : b < W.heap.size := cell_lt (hD 0 (by omega)).1.1.1
      refine ⟨some ⟨b, off, none⟩, c, (List.range l).map D, by simpa using hcs, .inr ⟨b, off, rfl, hlt, fun i hi => ?_⟩, by simpa using hlm, fun i hi => ?_⟩
      · simp at hi
        rw [show ((List.range l).map D).getD i nilSop = D i by simp [hi]]
        exact (hD i hi).1
      · simp at hi
        rw [show ((List.range l).map D).getD i nilSop = D i by simp [hi]]
        exact (hD i hi).2
end Go.Proofs.YtadajbdmlmickaaGreatDoor
