/-
  The document's take: a field's word by its letter.
-/
import Derived.Test.YtbckogojnjmjcaaGreatDoorR2
import Derived.Test.YtbckogojnjmjcaaGreatDoorW5
import Derived.Test.YtbckogojnjmjcaaGreatDoorB8
namespace Go.Proofs.YtbckogojnjmjcaaGreatDoor
open Go.RowKit Go.Shelf

/-- What take answers. -/
def RtR (p : Pc) (a : Ac) (b : Nat) (e : Ending) (w' : World) : Prop := e = .returned (.string ⟨(p.show a).toArray⟩) ∧ RcAt w' b (p.clr a)
set_option maxRecDepth 100000 in
theorem rtake_key (a : Ac) (hl : a.key.length ≤ 1000000) (b : Nat) (w : World) (hA : RcAt w b a) :
    Calls Tryz.prog 52 #[.pointer (some ⟨b, 0, none⟩), .int .u8 107] w fun e w' => RtR .key a b e w' ∧ Out (fun i => i = b) w w' := by
  have hc : w.cell? ⟨b, 6, none⟩ = some (.string ⟨a.key.toArray⟩) := hA.cell 6
  have HA : Hid (RcAt w b a) := hA
  have HQ := rquote_any a.key hl w
  have HSH : Hid (Pc.key.show a = quoteL a.key) := rfl
  clear hA
  go_enter Tryz.func52, Tryz.ntmps52
  go_wp2_with fail
  refine HQ.mono ?_
  rintro e w1 ⟨rfl, hB1⟩
  have HA1 : Hid (RcAt w1 b a) := HA.out.below hB1
  have hc1 : w1.cell? ⟨b, 6, none⟩ = some (.string ⟨a.key.toArray⟩) := HA1.out.cell 6
  have hfr := HA1.out.frz 6
  have HB1 : Hid (Below w.heap.size w w1) := hB1
  clear hc hB1 HQ
  generalize quoteL a.key = q at *
  go_wp2
  go_ret
  refine ⟨⟨?_, HA1.out.set 6 _ rfl⟩, Out.put (X := fun i => i = b) (Out.of_below HB1.out) rfl⟩
  rw [HSH.out]
  rfl
set_option maxRecDepth 100000 in
theorem rtake_val (a : Ac) (hl : a.val.length ≤ 1000000) (b : Nat) (w : World) (hA : RcAt w b a) :
    Calls Tryz.prog 52 #[.pointer (some ⟨b, 0, none⟩), .int .u8 118] w fun e w' => RtR .val a b e w' ∧ Out (fun i => i = b) w w' := by
  have hc : w.cell? ⟨b, 7, none⟩ = some (.string ⟨a.val.toArray⟩) := hA.cell 7
  have HA : Hid (RcAt w b a) := hA
  have HQ := rquote_any a.val hl w
  have HSH : Hid (Pc.val.show a = quoteL a.val) := rfl
  clear hA
  go_enter Tryz.func52, Tryz.ntmps52
  go_wp2_with fail
  refine HQ.mono ?_
  rintro e w1 ⟨rfl, hB1⟩
  have HA1 : Hid (RcAt w1 b a) := HA.out.below hB1
  have hc1 : w1.cell? ⟨b, 7, none⟩ = some (.string ⟨a.val.toArray⟩) := HA1.out.cell 7
  have hfr := HA1.out.frz 7
  have HB1 : Hid (Below w.heap.size w w1) := hB1
  clear hc hB1 HQ
  generalize quoteL a.val = q at *
  go_wp2
  go_ret
  refine ⟨⟨?_, HA1.out.set 7 _ rfl⟩, Out.put (X := fun i => i = b) (Out.of_below HB1.out) rfl⟩
  rw [HSH.out]
  rfl
set_option maxRecDepth 100000 in
theorem rtake_old (a : Ac) (hl : a.old.length ≤ 1000000) (b : Nat) (w : World) (hA : RcAt w b a) :
    Calls Tryz.prog 52 #[.pointer (some ⟨b, 0, none⟩), .int .u8 111] w fun e w' => RtR .old a b e w' ∧ Out (fun i => i = b) w w' := by
  have hc : w.cell? ⟨b, 8, none⟩ = some (.string ⟨a.old.toArray⟩) := hA.cell 8
  have HA : Hid (RcAt w b a) := hA
  have HQ := rquote_any a.old hl w
  have HSH : Hid (Pc.old.show a = quoteL a.old) := rfl
  clear hA
  go_enter Tryz.func52, Tryz.ntmps52
  go_wp2_with fail
  refine HQ.mono ?_
  rintro e w1 ⟨rfl, hB1⟩
  have HA1 : Hid (RcAt w1 b a) := HA.out.below hB1
  have hc1 : w1.cell? ⟨b, 8, none⟩ = some (.string ⟨a.old.toArray⟩) := HA1.out.cell 8
  have hfr := HA1.out.frz 8
  have HB1 : Hid (Below w.heap.size w w1) := hB1
  clear hc hB1 HQ
  generalize quoteL a.old = q at *
  go_wp2
  go_ret
  refine ⟨⟨?_, HA1.out.set 8 _ rfl⟩, Out.put (X := fun i => i = b) (Out.of_below HB1.out) rfl⟩
  rw [HSH.out]
  rfl
set_option maxRecDepth 100000 in
theorem rtake_node (a : Ac) (h1 : -9223372036854775808 ≤ a.node) (h2 : a.node ≤ 9223372036854775807) (b : Nat) (w : World) (hv : ∀ w', Out (fun i => i = b) w w' → Vars w') (hA : RcAt w b a) :
    Calls Tryz.prog 52 #[.pointer (some ⟨b, 0, none⟩), .int .u8 78] w fun e w' => RtR .node a b e w' ∧ Out (fun i => i = b) w w' := by
  have hc : w.cell? ⟨b, 1, none⟩ = some (.int .i64 a.node) := hA.cell 1
  have hfr := hA.frz 1
  have HA2 : Hid (RcAt (w.setCell ⟨b, 1, none⟩ (.int .i64 0)) b (Pc.node.clr a)) := hA.set 1 _ rfl
  have HO2 : Hid (Out (fun i => i = b) w (w.setCell ⟨b, 1, none⟩ (.int .i64 0))) := Out.put (X := fun i => i = b) (Out.refl _ _) rfl
  have HIT := itoa_any a.node h1 h2 _ (hv _ HO2.out)
  have HSH : Hid (Pc.node.show a = Lib.itoa a.node) := rfl
  unfold str at HIT
  clear hA hv
  go_enter Tryz.func52, Tryz.ntmps52
  go_wp2_with fail
  refine HIT.mono ?_
  rintro e w1 ⟨rfl, hB1⟩
  have HA1 : Hid (RcAt w1 b (Pc.node.clr a)) := HA2.out.below hB1
  have HO1 : Hid (Out (fun i => i = b) w w1) := HO2.out.two (Out.of_below hB1)
  clear hc hB1 HIT
  go_wp2
  go_ret
  exact ⟨⟨by rw [HSH.out]; rfl, HA1.out⟩, HO1.out⟩
set_option maxRecDepth 100000 in
theorem rtake_client (a : Ac) (h1 : -9223372036854775808 ≤ a.client) (h2 : a.client ≤ 9223372036854775807) (b : Nat) (w : World) (hv : ∀ w', Out (fun i => i = b) w w' → Vars w') (hA : RcAt w b a) :
    Calls Tryz.prog 52 #[.pointer (some ⟨b, 0, none⟩), .int .u8 67] w fun e w' => RtR .client a b e w' ∧ Out (fun i => i = b) w w' := by
  have hc : w.cell? ⟨b, 2, none⟩ = some (.int .i64 a.client) := hA.cell 2
  have hfr := hA.frz 2
  have HA2 : Hid (RcAt (w.setCell ⟨b, 2, none⟩ (.int .i64 0)) b (Pc.client.clr a)) := hA.set 2 _ rfl
  have HO2 : Hid (Out (fun i => i = b) w (w.setCell ⟨b, 2, none⟩ (.int .i64 0))) := Out.put (X := fun i => i = b) (Out.refl _ _) rfl
  have HIT := itoa_any a.client h1 h2 _ (hv _ HO2.out)
  have HSH : Hid (Pc.client.show a = Lib.itoa a.client) := rfl
  unfold str at HIT
  clear hA hv
  go_enter Tryz.func52, Tryz.ntmps52
  go_wp2_with fail
  refine HIT.mono ?_
  rintro e w1 ⟨rfl, hB1⟩
  have HA1 : Hid (RcAt w1 b (Pc.client.clr a)) := HA2.out.below hB1
  have HO1 : Hid (Out (fun i => i = b) w w1) := HO2.out.two (Out.of_below hB1)
  clear hc hB1 HIT
  go_wp2
  go_ret
  exact ⟨⟨by rw [HSH.out]; rfl, HA1.out⟩, HO1.out⟩
set_option maxRecDepth 100000 in
theorem rtake_n (a : Ac) (h1 : -9223372036854775808 ≤ a.n) (h2 : a.n ≤ 9223372036854775807) (b : Nat) (w : World) (hv : ∀ w', Out (fun i => i = b) w w' → Vars w') (hA : RcAt w b a) :
    Calls Tryz.prog 52 #[.pointer (some ⟨b, 0, none⟩), .int .u8 110] w fun e w' => RtR .n a b e w' ∧ Out (fun i => i = b) w w' := by
  have hc : w.cell? ⟨b, 3, none⟩ = some (.int .i64 a.n) := hA.cell 3
  have hfr := hA.frz 3
  have HA2 : Hid (RcAt (w.setCell ⟨b, 3, none⟩ (.int .i64 0)) b (Pc.n.clr a)) := hA.set 3 _ rfl
  have HO2 : Hid (Out (fun i => i = b) w (w.setCell ⟨b, 3, none⟩ (.int .i64 0))) := Out.put (X := fun i => i = b) (Out.refl _ _) rfl
  have HIT := itoa_any a.n h1 h2 _ (hv _ HO2.out)
  have HSH : Hid (Pc.n.show a = Lib.itoa a.n) := rfl
  unfold str at HIT
  clear hA hv
  go_enter Tryz.func52, Tryz.ntmps52
  go_wp2_with fail
  refine HIT.mono ?_
  rintro e w1 ⟨rfl, hB1⟩
  have HA1 : Hid (RcAt w1 b (Pc.n.clr a)) := HA2.out.below hB1
  have HO1 : Hid (Out (fun i => i = b) w w1) := HO2.out.two (Out.of_below hB1)
  clear hc hB1 HIT
  go_wp2
  go_ret
  exact ⟨⟨by rw [HSH.out]; rfl, HA1.out⟩, HO1.out⟩
set_option maxRecDepth 100000 in
theorem rtake_m (a : Ac) (h1 : -9223372036854775808 ≤ a.m) (h2 : a.m ≤ 9223372036854775807) (b : Nat) (w : World) (hv : ∀ w', Out (fun i => i = b) w w' → Vars w') (hA : RcAt w b a) :
    Calls Tryz.prog 52 #[.pointer (some ⟨b, 0, none⟩), .int .u8 109] w fun e w' => RtR .m a b e w' ∧ Out (fun i => i = b) w w' := by
  have hc : w.cell? ⟨b, 4, none⟩ = some (.int .i64 a.m) := hA.cell 4
  have hfr := hA.frz 4
  have HA2 : Hid (RcAt (w.setCell ⟨b, 4, none⟩ (.int .i64 0)) b (Pc.m.clr a)) := hA.set 4 _ rfl
  have HO2 : Hid (Out (fun i => i = b) w (w.setCell ⟨b, 4, none⟩ (.int .i64 0))) := Out.put (X := fun i => i = b) (Out.refl _ _) rfl
  have HIT := itoa_any a.m h1 h2 _ (hv _ HO2.out)
  have HSH : Hid (Pc.m.show a = Lib.itoa a.m) := rfl
  unfold str at HIT
  clear hA hv
  go_enter Tryz.func52, Tryz.ntmps52
  go_wp2_with fail
  refine HIT.mono ?_
  rintro e w1 ⟨rfl, hB1⟩
  have HA1 : Hid (RcAt w1 b (Pc.m.clr a)) := HA2.out.below hB1
  have HO1 : Hid (Out (fun i => i = b) w w1) := HO2.out.two (Out.of_below hB1)
  clear hc hB1 HIT
  go_wp2
  go_ret
  exact ⟨⟨by rw [HSH.out]; rfl, HA1.out⟩, HO1.out⟩
set_option maxRecDepth 100000 in
theorem rtake_pick (a : Ac) (b : Nat) (w : World) (hA : RcAt w b a) :
    Calls Tryz.prog 52 #[.pointer (some ⟨b, 0, none⟩), .int .u8 112] w fun e w' => RtR .pick a b e w' ∧ Out (fun i => i = b) w w' := by
  have hc : w.cell? ⟨b, 3, none⟩ = some (.int .i64 a.n) := hA.cell 3
  have hfr := hA.frz 3
  have HA2 : Hid (RcAt (w.setCell ⟨b, 3, none⟩ (.int .i64 0)) b (Pc.pick.clr a)) := hA.set 3 _ rfl
  have HO2 : Hid (Out (fun i => i = b) w (w.setCell ⟨b, 3, none⟩ (.int .i64 0))) := Out.put (X := fun i => i = b) (Out.refl _ _) rfl
  have HSH : Hid (Pc.pick.show a = wordOf 1 picksL a.n) := rfl
  have HP := rpicks_any (w.setCell ⟨b, 3, none⟩ (.int .i64 0))
  clear hA
  generalize hps : Pc.pick.show a = ps at *
  have HPS : Hid (Pc.pick.show a = ps) := hps
  clear hps
  generalize a.n = n at *
  by_cases h1 : 1 ≤ n
  case neg =>
    have HS : Hid (ps = [63]) := by show _ = _; rw [HSH.out]; unfold wordOf; rw [if_neg (by omega)]
    clear HSH HP
    go_enter Tryz.func52, Tryz.ntmps52
    go_wp2
    go_ret
    exact ⟨⟨by rw [HPS.out, HS.out]; rfl, HA2.out⟩, HO2.out⟩
  by_cases h2 : n ≤ 9
  case neg =>
    have HS : Hid (ps = [63]) := by show _ = _; rw [HSH.out]; unfold wordOf; rw [if_neg (by simp only [picksL, List.length_cons, List.length_nil]; omega)]
    clear HSH HP
    go_enter Tryz.func52, Tryz.ntmps52
    go_wp2
    go_ret
    exact ⟨⟨by rw [HPS.out, HS.out]; rfl, HA2.out⟩, HO2.out⟩
  obtain ⟨j, rfl⟩ : ∃ j : Nat, n = (j : Int) + 1 := ⟨(n - 1).toNat, by omega⟩
  have hj : j < 9 := by omega
  have HS : Hid (ps = picksL.getD j []) := by
    show _ = _
    rw [HSH.out]
    unfold wordOf
    rw [if_pos (by simp only [picksL, List.length_cons, List.length_nil]; omega), show ((j : Int) + 1 - 1).toNat = j by omega]
  clear HSH
  have hsub : IntKind.i64.wrap ((j : Int) + 1 - 1) = (j : Int) := by rw [IntKind.wrap_i64]; omega
  go_enter Tryz.func52, Tryz.ntmps52
  go_wp2_with fail
  refine HP.mono ?_
  rintro e w1 ⟨g, rfl, hg, hS, hB1⟩
  have HA1 : Hid (RcAt w1 b (Pc.pick.clr a)) := HA2.out.below hB1
  have HO1 : Hid (Out (fun i => i = b) w w1) := HO2.out.two (Out.of_below hB1)
  have hcj := hS j (by simpa [picksL] using hj)
  have hjj : (j : Int) + 1 - 1 = (j : Int) := by omega
  generalize picksL.getD j [] = pj at *
  clear hc hB1 hS HP HA2 HO2
  go_wp2
  go_ret
  exact ⟨⟨by rw [HPS.out, HS.out]; rfl, HA1.out⟩, HO1.out⟩
theorem rtake_any (p : Pc) (a : Ac) (ha : AcOk a) (b : Nat) (w : World) (hv : ∀ w', Out (fun i => i = b) w w' → Vars w') (hA : RcAt w b a) :
    Calls Tryz.prog 52 #[.pointer (some ⟨b, 0, none⟩), .int .u8 (p.letter.toNat : Int)] w fun e w' => RtR p a b e w' ∧ Out (fun i => i = b) w w' := by
  cases p
  · exact rtake_node a ha.node.1 ha.node.2 b w hv hA
  · exact rtake_client a ha.client.1 ha.client.2 b w hv hA
  · exact rtake_n a ha.n.1 ha.n.2 b w hv hA
  · exact rtake_m a ha.m.1 ha.m.2 b w hv hA
  · exact rtake_pick a b w hA
  · exact rtake_key a ha.key b w hA
  · exact rtake_val a ha.val b w hA
  · exact rtake_old a ha.old b w hA
end Go.Proofs.YtbckogojnjmjcaaGreatDoor
