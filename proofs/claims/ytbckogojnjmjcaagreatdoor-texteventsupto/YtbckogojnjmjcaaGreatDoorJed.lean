/-
  Events in memory; the program's lines of what an act told. The document's lines of what an act told. The document's events of the call's own.
-/
import Derived.Test.YtbckogojnjmjcaaGreatDoorE13
import Derived.Test.YtbckogojnjmjcaaGreatDoorE6
import Derived.Deep.Onto
import Derived.Test.YtbckogojnjmjcaaGreatDoorB4
import Derived.OneCell
namespace Go.Proofs.YtbckogojnjmjcaaGreatDoor
open Go.RowKit Go.Shelf

/-- An event at a place. -/
def EAt (w : World) (b o : Nat) (e : Ev) : Prop :=
  w.cell? ⟨b, o, none⟩ = some (.int .i64 e.kind) ∧ w.cell? ⟨b, o + 1, none⟩ = some (.int .i64 e.node) ∧ w.cell? ⟨b, o + 2, none⟩ = some (.int .i64 e.client) ∧ w.cell? ⟨b, o + 3, none⟩ = some (.int .i64 e.number) ∧ w.cell? ⟨b, o + 4, none⟩ = some (.int .i64 e.code) ∧ w.cell? ⟨b, o + 5, none⟩ = some (.string ⟨e.val.toArray⟩)
def ev0 : Ev := ⟨0, 0, 0, 0, 0, []⟩
def eat (l : List Ev) (i : Nat) : Ev := l.getD i ev0
theorem eat_mem {l : List Ev} {i : Nat} (h : i < l.length) : eat l i ∈ l := by
  unfold eat
  rw [List.getD_eq_getElem?_getD, List.getElem?_eq_getElem h]
  exact List.getElem_mem h
theorem take_eat {l : List Ev} {i : Nat} (h : i < l.length) : l.take (i + 1) = l.take i ++ [eat l i] := by
  unfold eat
  rw [List.take_add_one, List.getElem?_eq_getElem h, List.getD_eq_getElem?_getD, List.getElem?_eq_getElem h]
  rfl
/-- Events in a row. -/
def EvsAt (M : Nat) (w : World) (a : Option Addr) (l : List Ev) : Prop := l = [] ∨ ∃ b off, a = some ⟨b, off, none⟩ ∧ b < M ∧ ∀ i, i < l.length → EAt w b (off + i * 6) (eat l i)
theorem EAt.below {M : Nat} {w w' : World} {b o : Nat} {e : Ev} (h : EAt w b o e) (hb : b < M) (hB : Below M w w') : EAt w' b o e := by
  obtain ⟨h0, h1, h2, h3, h4, h5⟩ := h
  exact ⟨(hB.cell hb).trans h0, (hB.cell hb).trans h1, (hB.cell hb).trans h2, (hB.cell hb).trans h3, (hB.cell hb).trans h4, (hB.cell hb).trans h5⟩
theorem EvsAt.below {M : Nat} {w w' : World} {a : Option Addr} {l : List Ev} (h : EvsAt M w a l) (hB : Below M w w') : EvsAt M w' a l := by
  rcases h with h | ⟨b, off, h1, h2, h3⟩
  · exact .inl h
  · exact .inr ⟨b, off, h1, h2, fun i hi => (h3 i hi).below h2 hB⟩
theorem EvsAt.up {M M' : Nat} {w : World} {a : Option Addr} {l : List Ev} (h : EvsAt M w a l) (hM : M ≤ M') : EvsAt M' w a l := by
  rcases h with h | ⟨b, off, h1, h2, h3⟩
  · exact .inl h
  · exact .inr ⟨b, off, h1, by omega, h3⟩
set_option maxRecDepth 100000 in
set_option maxHeartbeats 4000000 in
theorem told_any (err : Int) (did : Bool) (a : Option Addr) (c : Nat) (l : List Ev) (he : InZ err) (hl : l.length ≤ 1000000) (hok : ∀ e ∈ l, EvOk e) (w : World) (hv : Vars w) (hE : EvsAt w.heap.size w a l) : Calls Tryz.prog 29 #[.agg #[.int .i64 err, .bool did, .slice a l.length c]] w fun r w' => ∃ v, r = .returned v ∧ SOw w.heap.size w' v (verL err did :: l.map evL) ∧ Below w.heap.size w w' := by
  obtain ⟨W0, hW0⟩ : ∃ W0, w.alloc (.cells #[.int .i64 err, .bool did, .slice a l.length c] 68) = W0 := ⟨_, rfl⟩
  have HB0 : Hid (Below w.heap.size w W0) := by show Below _ _ _; rw [← hW0]; exact (Below.refl _ _).alloc (Nat.le_refl _) _
  have hs0 : W0.heap.size = w.heap.size + 1 := by rw [← hW0]; simp
  have hX0 : W0.heap[w.heap.size]? = some (.cells #[.int .i64 err, .bool did, .slice a l.length c] 68 (0, 0)) := by rw [← hW0]; exact heap_alloc_new w _
  have c0 : W0.cell? ⟨w.heap.size, 0, none⟩ = some (.int .i64 err) := by simp only [World.cell?, hX0]; rfl
  have c1 : W0.cell? ⟨w.heap.size, 1, none⟩ = some (.bool did) := by simp only [World.cell?, hX0]; rfl
  have c2 : W0.cell? ⟨w.heap.size, 2, none⟩ = some (.slice a l.length c) := by simp only [World.cell?, hX0]; rfl
  have HW0 : Hid (_ = W0) := hW0
  have HE : Hid (EvsAt w.heap.size w a l) := hE
  have HV : Hid (∀ W, Below w.heap.size w W → Vars W) := fun W h => hv.below h
  have HVD := verdict_any err did a l.length c he W0 (hv.below HB0.out)
  have HEV : Hid (∀ e, e ∈ l → ∀ W, Vars W → Calls Tryz.prog 25 #[.agg e.cells] W fun r w' => r = .returned (.string ⟨(evL e).toArray⟩) ∧ Below W.heap.size W w') := fun e h W hW => ev_any e (hok e h) W hW
  generalize verL err did = vl at *
  generalize hn : l.length = n at *
  have HN : Hid (l.length = n) := hn
  clear hW0 hX0 hv hE hok hn
  go_enter Tryz.func29, Tryz.ntmps29
  go_upto_region 1 with fail
  rw [HW0.out]
  go_wp2_with (go_at_call 64; refine HVD.mono ?_; rintro r w1 ⟨rfl, hB1⟩; have c2' : w1.cell? ⟨w.heap.size, 2, none⟩ = some (.slice a n c) := (hB1.cell (by show w.heap.size < _; omega)).trans c2; have hs1 : w.heap.size + 1 ≤ w1.heap.size := (by have := hB1.size; omega); obtain ⟨rc1, -⟩ := stays (W := w1) (R := w.heap.size) (by omega); have HB1 : Hid (Below (w.heap.size + 1) W0 w1) := (show Below _ _ _ by rw [← hs0]; exact hB1); clear hB1)
  clear c0 c1 c2 c2' rc1 HVD
  go_loopw [3, 12] (fun vs vi wr => ∃ k : Nat, vi = .int .i64 k ∧ k ≤ n ∧ Hid (SOw (w.heap.size + 1) wr vs (vl :: (l.take k).map evL)) ∧ Hid (Below (w.heap.size + 1) W0 wr)) (fun _ i _ => n - (intOf i).toNat)
  case atStart =>
    exact ⟨0, rfl, by omega, World.ownsRow.mono (own_one w1 vl) (by omega), HB1.out.alloc (by omega) _⟩
  case round =>
    obtain ⟨k, rfl, hk, HO, HB⟩ := hrel
    have hszr : w.heap.size + 1 ≤ wr.heap.size := by have := HB.out.size; omega
    have HBW : Hid (Below w.heap.size w wr) := HB0.out.trans (HB.out.mono (by omega))
    obtain ⟨va, vc, rfl, hc1, hc2⟩ := row_shape HO.out
    by_cases hlt : k < n
    · have hkl : k < l.length := by rw [HN.out]; exact hlt
      have hmem := eat_mem hkl
      have hTK := take_eat hkl
      have HTK : Hid ((l.take (k + 1)).map evL = (l.take k).map evL ++ [evL (eat l k)]) := by show _ = _; rw [hTK, List.map_append]; rfl
      have HLL : Hid ((vl :: (l.take k).map evL).length = k + 1) := by
        show _ = _
        rw [List.length_cons, List.length_map, List.length_take, HN.out]
        omega
      rcases HE.out with h0 | ⟨b, off, rfl, hb, hE2⟩
      · rw [h0] at hkl; simp at hkl
      obtain ⟨e0, e1, e2, e3, e4, e5⟩ := (hE2 k hkl).below hb HBW.out
      have HCE := HEV.out (eat l k) hmem
      unfold Ev.cells at HCE
      generalize eat l k = ex at *
      obtain ⟨ekind, enode, eclient, enumber, ecode, eval⟩ := ex
      simp only at e0 e1 e2 e3 e4 e5 HCE
      generalize evL ⟨ekind, enode, eclient, enumber, ecode, eval⟩ = ln at *
      obtain ⟨dn, hdn⟩ : ∃ dn, dn = vl :: (l.take k).map evL := ⟨_, rfl⟩
      have HDN : Hid (vl :: (l.take k).map evL = dn) := hdn.symm
      rw [HLL.out] at hc1
      have HO2 : Hid (SOw (w.heap.size + 1) wr (.slice va (k + 1) vc) dn) := by have := HO.out; rw [HLL.out, HDN.out] at this; exact this
      have hdl : dn.length = k + 1 := by rw [hdn]; exact HLL.out
      have HDL : Hid (dn.length = k + 1) := hdl
      rw [HLL.out]
      have HCA := fun o => HCE (wr.alloc o) (HV.out _ (HBW.out.alloc (by omega) o))
      clear hTK hmem hkl hdn HO hE2 HEV hdl
      go_wp2_with (first
        | (go_at_call 25; refine (HCA _).mono ?_; rintro e w5 ⟨rfl, hB5⟩; have HB5 : Hid (Below (w.heap.size + 1) W0 w5) := (HB.out.alloc (by omega) _).trans (hB5.mono (by simp; omega)); have HO5 : Hid (SOw (w.heap.size + 1) w5 (.slice va (k + 1) vc) dn) := SOw.below (World.ownsRow.alloc HO2.out _) hB5; have hs5 : w.heap.size + 1 ≤ w5.heap.size := (by have := HB5.out.size; omega); clear hB5)
        | (at_builtin; refine wpList_app tyS rfl _ _ rfl (w.heap.size + 1) (.slice va (k + 1) vc) (k + 1) (dn.map encStr) ⟨w5.heap.size, 0, none⟩ 1 1 [encStr ln] rfl (World.ownsRow.alloc (by have := HO5.out; unfold SOw at this; rwa [HDL.out] at this) _) rfl rfl (news_at w5 #[encStr ln] 9) (fun u hu => by cases List.mem_singleton.1 hu; rfl) (by omega) (by simp; omega) ?_; intro v6 w6 r1 r2 r3))
      refine ⟨⟨k + 1, by simp, by omega, ?_, (HB5.out.alloc (by omega) _).grown r2 (by simp; omega) (fun g hg => (World.ownsRow.lt HO5.out g hg).1)⟩, by simp [intOf]; omega⟩
      show SOw _ _ _ _
      unfold SOw
      rw [HTK.out, ← List.cons_append, HDN.out, List.length_append, List.map_append, HDL.out]
      exact r1
    · have hke : k = n := by omega
      subst hke
      have hall : l.take k = l := List.take_of_length_le (by rw [HN.out]; omega)
      rw [hall] at HO hc1 ⊢
      generalize (vl :: l.map evL).length = m at *
      clear hall
      go_wp2
      go_ret
      exact ⟨_, rfl, World.ownsRow.mono HO.out (by omega), HBW.out⟩
end Go.Proofs.YtbckogojnjmjcaaGreatDoor
namespace Go.Proofs.YtbckogojnjmjcaaGreatDoor
open Go.RowKit Go.Shelf

set_option maxRecDepth 100000 in
set_option maxHeartbeats 4000000 in
theorem rtold_any (err : Int) (did : Bool) (a : Option Addr) (c : Nat) (l : List Ev) (he : InZ err) (hl : l.length ≤ 1000000) (hok : ∀ e ∈ l, EvOk e) (w : World) (hv : Vars w) (hE : EvsAt w.heap.size w a l) : Calls Tryz.prog 30 #[.agg #[.int .i64 err, .bool did, .slice a l.length c]] w fun r w' => ∃ v, r = .returned v ∧ SOw w.heap.size w' v (verL err did :: l.map evL) ∧ Below w.heap.size w w' := by
  obtain ⟨W0, hW0⟩ : ∃ W0, w.alloc (.cells #[.int .i64 err, .bool did, .slice a l.length c] 77) = W0 := ⟨_, rfl⟩
  have HB0 : Hid (Below w.heap.size w W0) := by show Below _ _ _; rw [← hW0]; exact (Below.refl _ _).alloc (Nat.le_refl _) _
  have hs0 : W0.heap.size = w.heap.size + 1 := by rw [← hW0]; simp
  have hX0 : W0.heap[w.heap.size]? = some (.cells #[.int .i64 err, .bool did, .slice a l.length c] 77 (0, 0)) := by rw [← hW0]; exact heap_alloc_new w _
  have c0 : W0.cell? ⟨w.heap.size, 0, none⟩ = some (.int .i64 err) := by simp only [World.cell?, hX0]; rfl
  have c1 : W0.cell? ⟨w.heap.size, 1, none⟩ = some (.bool did) := by simp only [World.cell?, hX0]; rfl
  have c2 : W0.cell? ⟨w.heap.size, 2, none⟩ = some (.slice a l.length c) := by simp only [World.cell?, hX0]; rfl
  have HW0 : Hid (_ = W0) := hW0
  have HC2 : Hid (W0.cell? ⟨w.heap.size, 2, none⟩ = some (.slice a l.length c)) := c2
  have HE : Hid (EvsAt w.heap.size w a l) := hE
  have HV : Hid (∀ W, Below w.heap.size w W → Vars W) := fun W h => hv.below h
  have HEV : Hid (∀ e, e ∈ l → ∀ W, Vars W → Calls Tryz.prog 26 #[.agg e.cells] W fun r w' => r = .returned (.string ⟨(evL e).toArray⟩) ∧ Below W.heap.size W w') := fun e h W hW => rev_any e (hok e h) W hW
  generalize hn : l.length = n at *
  have HN : Hid (l.length = n) := hn
  obtain ⟨rc0, -⟩ := stays (W := W0) (R := w.heap.size) (by omega)
  have hlit : W0.alloc (.cells #[encStr [110, 111]] 9) = W0.alloc (.cells #[.string ⟨#[110, 111]⟩] 9) := rfl
  have hOW := own_one W0 [110, 111]
  rw [hlit, hs0] at hOW
  have HOW : Hid (SOw (w.heap.size + 1) (W0.alloc (.cells #[.string ⟨#[110, 111]⟩] 9)) (.slice (some ⟨w.heap.size + 1, 0, none⟩) 1 1) [[110, 111]]) := hOW
  have hOK := own_one W0 [111, 107]
  have hlit2 : W0.alloc (.cells #[encStr [111, 107]] 9) = W0.alloc (.cells #[.string ⟨#[111, 107]⟩] 9) := rfl
  rw [hlit2, hs0] at hOK
  have HOK : Hid (SOw (w.heap.size + 1) (W0.alloc (.cells #[.string ⟨#[111, 107]⟩] 9)) (.slice (some ⟨w.heap.size + 1, 0, none⟩) 1 1) [[111, 107]]) := hOK
  have HBA : Hid (Below (w.heap.size + 1) W0 (W0.alloc (.cells #[.string ⟨#[110, 111]⟩] 9))) := (Below.refl _ _).alloc (by omega) _
  have HIT := itoa_any err he.1 he.2 (W0.alloc (.cells #[.string ⟨#[110, 111]⟩] 9)) (hv.below (HB0.out.trans (HBA.out.mono (by omega))))
  have hil := itoa_len err he.1 he.2
  obtain ⟨sc, sf⟩ := SOw.cell hOW (k := 0) (by simp)
  clear hW0 hX0 hv hE hok hn hlit hOW hlit2 hOK
  by_cases h0 : err = 0
  · subst h0
    cases did with
    | true =>
      have HVL : Hid (verL 0 true = [111, 107]) := by show _ = _; unfold verL; simp
      generalize verL 0 true = vl at *
      have HSS : Hid (SOw (w.heap.size + 1) (W0.alloc (.cells #[.string ⟨#[111, 107]⟩] 9)) (.slice (some ⟨w.heap.size + 1, 0, none⟩) 1 1) (vl :: (l.take 0).map evL)) := by
        rw [HVL.out]
        exact HOK.out
      have HSB : Hid (Below (w.heap.size + 1) W0 (W0.alloc (.cells #[.string ⟨#[111, 107]⟩] 9))) := (Below.refl _ _).alloc (by omega) _
      go_enter Tryz.func30, Tryz.ntmps30
      go_upto_region 2 with fail
      rw [HW0.out]
      go_wp2
      go_loopw [3, 4] (fun vs vi wr => ∃ k : Nat, vi = .int .i64 k ∧ k ≤ n ∧ Hid (SOw (w.heap.size + 1) wr vs (vl :: (l.take k).map evL)) ∧ Hid (Below (w.heap.size + 1) W0 wr)) (fun _ i _ => n - (intOf i).toNat)
      case atStart =>
        exact ⟨0, rfl, by omega, HSS.out, HSB.out⟩
      case round =>
        obtain ⟨k, rfl, hk, HO, HB⟩ := hrel
        have hszr : w.heap.size + 1 ≤ wr.heap.size := by have := HB.out.size; omega
        have HBW : Hid (Below w.heap.size w wr) := HB0.out.trans (HB.out.mono (by omega))
        have cb : wr.cell? ⟨w.heap.size, 2, none⟩ = some (.slice a n c) := (HB.out.cell (by show w.heap.size < _; omega)).trans HC2.out
        obtain ⟨va, vc, rfl, hc1, hc2⟩ := row_shape HO.out
        by_cases hlt : k < n
        · have hkl : k < l.length := by rw [HN.out]; exact hlt
          have hmem := eat_mem hkl
          have hTK := take_eat hkl
          have HTK : Hid ((l.take (k + 1)).map evL = (l.take k).map evL ++ [evL (eat l k)]) := by show _ = _; rw [hTK, List.map_append]; rfl
          have HLL : Hid ((vl :: (l.take k).map evL).length = k + 1) := by
            show _ = _
            rw [List.length_cons, List.length_map, List.length_take, HN.out]
            omega
          rcases HE.out with h0 | ⟨b, off, rfl, hb, hE2⟩
          · rw [h0] at hkl; simp at hkl
          obtain ⟨e0, e1, e2, e3, e4, e5⟩ := (hE2 k hkl).below hb HBW.out
          have HCE := HEV.out (eat l k) hmem wr (HV.out _ HBW.out)
          unfold Ev.cells at HCE
          generalize eat l k = ex at *
          obtain ⟨ekind, enode, eclient, enumber, ecode, eval⟩ := ex
          simp only at e0 e1 e2 e3 e4 e5 HCE
          generalize evL ⟨ekind, enode, eclient, enumber, ecode, eval⟩ = ln at *
          obtain ⟨dn, hdn⟩ : ∃ dn, dn = vl :: (l.take k).map evL := ⟨_, rfl⟩
          have HDN : Hid (vl :: (l.take k).map evL = dn) := hdn.symm
          rw [HLL.out] at hc1
          have HO2 : Hid (SOw (w.heap.size + 1) wr (.slice va (k + 1) vc) dn) := by have := HO.out; rw [HLL.out, HDN.out] at this; exact this
          have hdl : dn.length = k + 1 := by rw [hdn]; exact HLL.out
          have HDL : Hid (dn.length = k + 1) := hdl
          rw [HLL.out]
          clear hTK hmem hkl hdn HO hE2 HEV hdl
          go_wp2_with (first
            | (go_at_call 26; refine HCE.mono ?_; rintro e w5 ⟨rfl, hB5⟩; have HB5 : Hid (Below (w.heap.size + 1) W0 w5) := HB.out.trans (hB5.mono (by omega)); have HO5 : Hid (SOw (w.heap.size + 1) w5 (.slice va (k + 1) vc) dn) := SOw.below HO2.out hB5; have hs5 : w.heap.size + 1 ≤ w5.heap.size := (by have := HB5.out.size; omega); clear hB5)
            | (at_builtin; refine wpList_app tyS rfl _ _ rfl (w.heap.size + 1) (.slice va (k + 1) vc) (k + 1) (dn.map encStr) ⟨w5.heap.size, 0, none⟩ 1 1 [encStr ln] rfl (World.ownsRow.alloc (by have := HO5.out; unfold SOw at this; rwa [HDL.out] at this) _) rfl rfl (news_at w5 #[encStr ln] 9) (fun u hu => by cases List.mem_singleton.1 hu; rfl) (by omega) (by simp; omega) ?_; intro v6 w6 r1 r2 r3))
          refine ⟨⟨k + 1, by simp, by omega, ?_, (HB5.out.alloc (by omega) _).grown r2 (by simp; omega) (fun g hg => (World.ownsRow.lt HO5.out g hg).1)⟩, by simp [intOf]; omega⟩
          show SOw _ _ _ _
          unfold SOw
          rw [HTK.out, ← List.cons_append, HDN.out, List.length_append, List.map_append, HDL.out]
          exact r1
        · have hke : k = n := by omega
          subst hke
          have hall : l.take k = l := List.take_of_length_le (by rw [HN.out]; omega)
          rw [hall] at HO hc1 ⊢
          generalize (vl :: l.map evL).length = m at *
          clear hall
          go_wp2
          go_ret
          exact ⟨_, rfl, World.ownsRow.mono HO.out (by omega), HBW.out⟩
    | false =>
      have HVL : Hid (verL 0 false = [110, 111]) := by show _ = _; unfold verL; simp
      generalize verL 0 false = vl at *
      have HSS : Hid (SOw (w.heap.size + 1) (W0.alloc (.cells #[.string ⟨#[110, 111]⟩] 9)) (.slice (some ⟨w.heap.size + 1, 0, none⟩) 1 1) (vl :: (l.take 0).map evL)) := by
        rw [HVL.out]
        exact HOW.out
      have HSB := HBA
      go_enter Tryz.func30, Tryz.ntmps30
      go_upto_region 2 with fail
      rw [HW0.out]
      go_wp2
      go_loopw [3, 4] (fun vs vi wr => ∃ k : Nat, vi = .int .i64 k ∧ k ≤ n ∧ Hid (SOw (w.heap.size + 1) wr vs (vl :: (l.take k).map evL)) ∧ Hid (Below (w.heap.size + 1) W0 wr)) (fun _ i _ => n - (intOf i).toNat)
      case atStart =>
        exact ⟨0, rfl, by omega, HSS.out, HSB.out⟩
      case round =>
        obtain ⟨k, rfl, hk, HO, HB⟩ := hrel
        have hszr : w.heap.size + 1 ≤ wr.heap.size := by have := HB.out.size; omega
        have HBW : Hid (Below w.heap.size w wr) := HB0.out.trans (HB.out.mono (by omega))
        have cb : wr.cell? ⟨w.heap.size, 2, none⟩ = some (.slice a n c) := (HB.out.cell (by show w.heap.size < _; omega)).trans HC2.out
        obtain ⟨va, vc, rfl, hc1, hc2⟩ := row_shape HO.out
        by_cases hlt : k < n
        · have hkl : k < l.length := by rw [HN.out]; exact hlt
          have hmem := eat_mem hkl
          have hTK := take_eat hkl
          have HTK : Hid ((l.take (k + 1)).map evL = (l.take k).map evL ++ [evL (eat l k)]) := by show _ = _; rw [hTK, List.map_append]; rfl
          have HLL : Hid ((vl :: (l.take k).map evL).length = k + 1) := by
            show _ = _
            rw [List.length_cons, List.length_map, List.length_take, HN.out]
            omega
          rcases HE.out with h0 | ⟨b, off, rfl, hb, hE2⟩
          · rw [h0] at hkl; simp at hkl
          obtain ⟨e0, e1, e2, e3, e4, e5⟩ := (hE2 k hkl).below hb HBW.out
          have HCE := HEV.out (eat l k) hmem wr (HV.out _ HBW.out)
          unfold Ev.cells at HCE
          generalize eat l k = ex at *
          obtain ⟨ekind, enode, eclient, enumber, ecode, eval⟩ := ex
          simp only at e0 e1 e2 e3 e4 e5 HCE
          generalize evL ⟨ekind, enode, eclient, enumber, ecode, eval⟩ = ln at *
          obtain ⟨dn, hdn⟩ : ∃ dn, dn = vl :: (l.take k).map evL := ⟨_, rfl⟩
          have HDN : Hid (vl :: (l.take k).map evL = dn) := hdn.symm
          rw [HLL.out] at hc1
          have HO2 : Hid (SOw (w.heap.size + 1) wr (.slice va (k + 1) vc) dn) := by have := HO.out; rw [HLL.out, HDN.out] at this; exact this
          have hdl : dn.length = k + 1 := by rw [hdn]; exact HLL.out
          have HDL : Hid (dn.length = k + 1) := hdl
          rw [HLL.out]
          clear hTK hmem hkl hdn HO hE2 HEV hdl
          go_wp2_with (first
            | (go_at_call 26; refine HCE.mono ?_; rintro e w5 ⟨rfl, hB5⟩; have HB5 : Hid (Below (w.heap.size + 1) W0 w5) := HB.out.trans (hB5.mono (by omega)); have HO5 : Hid (SOw (w.heap.size + 1) w5 (.slice va (k + 1) vc) dn) := SOw.below HO2.out hB5; have hs5 : w.heap.size + 1 ≤ w5.heap.size := (by have := HB5.out.size; omega); clear hB5)
            | (at_builtin; refine wpList_app tyS rfl _ _ rfl (w.heap.size + 1) (.slice va (k + 1) vc) (k + 1) (dn.map encStr) ⟨w5.heap.size, 0, none⟩ 1 1 [encStr ln] rfl (World.ownsRow.alloc (by have := HO5.out; unfold SOw at this; rwa [HDL.out] at this) _) rfl rfl (news_at w5 #[encStr ln] 9) (fun u hu => by cases List.mem_singleton.1 hu; rfl) (by omega) (by simp; omega) ?_; intro v6 w6 r1 r2 r3))
          refine ⟨⟨k + 1, by simp, by omega, ?_, (HB5.out.alloc (by omega) _).grown r2 (by simp; omega) (fun g hg => (World.ownsRow.lt HO5.out g hg).1)⟩, by simp [intOf]; omega⟩
          show SOw _ _ _ _
          unfold SOw
          rw [HTK.out, ← List.cons_append, HDN.out, List.length_append, List.map_append, HDL.out]
          exact r1
        · have hke : k = n := by omega
          subst hke
          have hall : l.take k = l := List.take_of_length_le (by rw [HN.out]; omega)
          rw [hall] at HO hc1 ⊢
          generalize (vl :: l.map evL).length = m at *
          clear hall
          go_wp2
          go_ret
          exact ⟨_, rfl, World.ownsRow.mono HO.out (by omega), HBW.out⟩
  · have HVL : Hid (verL err did = [101, 114, 114, 32] ++ Lib.itoa err) := by show _ = _; unfold verL; rw [if_pos h0]; simp [tellL]
    have hb0 : (err != 0) = true := by rw [bne_iff_ne]; exact h0
    generalize verL err did = vl at *
    unfold str at HIT
    generalize Lib.itoa err = ie at *
    have hcat := cat2 [101, 114, 114, 32] ie
    clear h0
    go_enter Tryz.func30, Tryz.ntmps30
    go_upto_region 2 with fail
    rw [HW0.out]
    go_wp2_with (go_at_call 58; refine HIT.mono ?_; rintro r w5 ⟨rfl, hB5⟩; have hO5 := SOw.below HOW.out hB5; obtain ⟨tc, tf⟩ := SOw.cell hO5 (k := 0) (by simp); have HO5 : Hid (SOw _ _ _ _) := hO5; have HB5 : Hid (Below (w.heap.size + 1) W0 w5) := HBA.out.trans (hB5.mono (by simp; omega)); clear hO5 hB5)
    have HSS : Hid (SOw (w.heap.size + 1) (w5.setCell ⟨w.heap.size + 1, 0, none⟩ (.string ⟨([101, 114, 114, 32] ++ ie).toArray⟩)) (.slice (some ⟨w.heap.size + 1, 0, none⟩) 1 1) (vl :: (l.take 0).map evL)) := by
      rw [HVL.out]
      exact row_store HO5.out 0 (encStr ([101, 114, 114, 32] ++ ie))
    have HSB : Hid (Below (w.heap.size + 1) W0 (w5.setCell ⟨w.heap.size + 1, 0, none⟩ (.string ⟨([101, 114, 114, 32] ++ ie).toArray⟩))) := HB5.out.setCell (by show _ ≤ w.heap.size + 1; omega) _
    go_loopw [3, 4] (fun vs vi wr => ∃ k : Nat, vi = .int .i64 k ∧ k ≤ n ∧ Hid (SOw (w.heap.size + 1) wr vs (vl :: (l.take k).map evL)) ∧ Hid (Below (w.heap.size + 1) W0 wr)) (fun _ i _ => n - (intOf i).toNat)
    case atStart =>
      exact ⟨0, rfl, by omega, HSS.out, HSB.out⟩
    case round =>
      obtain ⟨k, rfl, hk, HO, HB⟩ := hrel
      have hszr : w.heap.size + 1 ≤ wr.heap.size := by have := HB.out.size; omega
      have HBW : Hid (Below w.heap.size w wr) := HB0.out.trans (HB.out.mono (by omega))
      have cb : wr.cell? ⟨w.heap.size, 2, none⟩ = some (.slice a n c) := (HB.out.cell (by show w.heap.size < _; omega)).trans HC2.out
      obtain ⟨va, vc, rfl, hc1, hc2⟩ := row_shape HO.out
      by_cases hlt : k < n
      · have hkl : k < l.length := by rw [HN.out]; exact hlt
        have hmem := eat_mem hkl
        have hTK := take_eat hkl
        have HTK : Hid ((l.take (k + 1)).map evL = (l.take k).map evL ++ [evL (eat l k)]) := by show _ = _; rw [hTK, List.map_append]; rfl
        have HLL : Hid ((vl :: (l.take k).map evL).length = k + 1) := by
          show _ = _
          rw [List.length_cons, List.length_map, List.length_take, HN.out]
          omega
        rcases HE.out with h0 | ⟨b, off, rfl, hb, hE2⟩
        · rw [h0] at hkl; simp at hkl
        obtain ⟨e0, e1, e2, e3, e4, e5⟩ := (hE2 k hkl).below hb HBW.out
        have HCE := HEV.out (eat l k) hmem wr (HV.out _ HBW.out)
        unfold Ev.cells at HCE
        generalize eat l k = ex at *
        obtain ⟨ekind, enode, eclient, enumber, ecode, eval⟩ := ex
        simp only at e0 e1 e2 e3 e4 e5 HCE
        generalize evL ⟨ekind, enode, eclient, enumber, ecode, eval⟩ = ln at *
        obtain ⟨dn, hdn⟩ : ∃ dn, dn = vl :: (l.take k).map evL := ⟨_, rfl⟩
        have HDN : Hid (vl :: (l.take k).map evL = dn) := hdn.symm
        rw [HLL.out] at hc1
        have HO2 : Hid (SOw (w.heap.size + 1) wr (.slice va (k + 1) vc) dn) := by have := HO.out; rw [HLL.out, HDN.out] at this; exact this
        have hdl : dn.length = k + 1 := by rw [hdn]; exact HLL.out
        have HDL : Hid (dn.length = k + 1) := hdl
        rw [HLL.out]
        clear hTK hmem hkl hdn HO hE2 HEV hdl
        go_wp2_with (first
          | (go_at_call 26; refine HCE.mono ?_; rintro e w5 ⟨rfl, hB5⟩; have HB5 : Hid (Below (w.heap.size + 1) W0 w5) := HB.out.trans (hB5.mono (by omega)); have HO5 : Hid (SOw (w.heap.size + 1) w5 (.slice va (k + 1) vc) dn) := SOw.below HO2.out hB5; have hs5 : w.heap.size + 1 ≤ w5.heap.size := (by have := HB5.out.size; omega); clear hB5)
          | (at_builtin; refine wpList_app tyS rfl _ _ rfl (w.heap.size + 1) (.slice va (k + 1) vc) (k + 1) (dn.map encStr) ⟨w5.heap.size, 0, none⟩ 1 1 [encStr ln] rfl (World.ownsRow.alloc (by have := HO5.out; unfold SOw at this; rwa [HDL.out] at this) _) rfl rfl (news_at w5 #[encStr ln] 9) (fun u hu => by cases List.mem_singleton.1 hu; rfl) (by omega) (by simp; omega) ?_; intro v6 w6 r1 r2 r3))
        refine ⟨⟨k + 1, by simp, by omega, ?_, (HB5.out.alloc (by omega) _).grown r2 (by simp; omega) (fun g hg => (World.ownsRow.lt HO5.out g hg).1)⟩, by simp [intOf]; omega⟩
        show SOw _ _ _ _
        unfold SOw
        rw [HTK.out, ← List.cons_append, HDN.out, List.length_append, List.map_append, HDL.out]
        exact r1
      · have hke : k = n := by omega
        subst hke
        have hall : l.take k = l := List.take_of_length_le (by rw [HN.out]; omega)
        rw [hall] at HO hc1 ⊢
        generalize (vl :: l.map evL).length = m at *
        clear hall
        go_wp2
        go_ret
        exact ⟨_, rfl, World.ownsRow.mono HO.out (by omega), HBW.out⟩
end Go.Proofs.YtbckogojnjmjcaaGreatDoor
namespace Go.Proofs.YtbckogojnjmjcaaGreatDoor
open Go.RowKit Go.Shelf

/-- Events of the call's own, as the document has them. -/
def ROw (N : Nat) (w : World) (v : Value) (l : List Ev) : Prop := w.ownsRow N 78 6 v l.length (l.flatMap fun x => x.cells.toList)
theorem tyR : Ty 75 78 (.agg #[.int .i64 0, .int .i64 0, .int .i64 0, .int .i64 0, .int .i64 0, .string ⟨#[]⟩]) 6 56 := ⟨Tryz.underlying75, by kernel_rfl, rfl, by decide, by decide⟩
theorem ev_one (x : Ev) : ∀ u ∈ x.cells.toList, u.oneCell' = true := by
  intro u hu
  simp only [Ev.cells, List.mem_cons, List.not_mem_nil, or_false] at hu
  rcases hu with rfl | rfl | rfl | rfl | rfl | rfl <;> rfl
theorem ROw.snoc {N : Nat} {w : World} {v : Value} {l : List Ev} {x : Ev} (h : w.ownsRow N 78 6 v (l.length + 1) ((l.flatMap fun x => x.cells.toList) ++ x.cells.toList)) : ROw N w v (l ++ [x]) := by
  unfold ROw
  rw [List.flatMap_append]
  simpa using h
theorem ROw.evs {N M : Nat} {w : World} {a : Option Addr} {cap : Nat} {l : List Ev} (h : ROw N w (.slice a l.length cap) l) (hM : w.heap.size ≤ M) : EvsAt M w a l := by
  rcases Nat.eq_zero_or_pos l.length with e | e
  · exact .inl (List.length_eq_zero_iff.1 e)
  · obtain ⟨g, rfl, -, hg⟩ := row_ptr h e
    refine .inr ⟨g, 0, rfl, by omega, fun i hi => ?_⟩
    have key : ∀ j, j < 6 → w.cell? ⟨g, 0 + i * 6 + j, none⟩ = some ((eat l i).cells.toList.getD j undef) := fun j hj => by
      rw [Nat.zero_add, (row_cell h (by omega)).1]
      have h1 := flat_get 6 l (fun x : Ev => x.cells.toList) (fun _ _ => rfl) i l[i] (List.getElem?_eq_getElem hi) j hj
      rw [List.getD_eq_getElem?_getD, h1]
      have ho : eat l i = l[i] := by unfold eat; rw [List.getD_eq_getElem?_getD, List.getElem?_eq_getElem hi]; rfl
      rw [ho, ← List.getD_eq_getElem?_getD]
    exact ⟨key 0 (by omega), key 1 (by omega), key 2 (by omega), key 3 (by omega), key 4 (by omega), key 5 (by omega)⟩
/-- An event's two copies, and what is below. -/
structure EC (n : Nat) (cs : Array Value) (w V : World) : Prop where
  x : V.heap[n]? = some (.cells cs 74 (0, 0))
  y : V.heap[n + 1]? = some (.cells cs 78 (0, 0))
  bel : Below w.heap.size w V
theorem EC.below {n : Nat} {cs : Array Value} {w V V' : World} (h : EC n cs w V) (hB : Below V.heap.size V V') : EC n cs w V' :=
  ⟨(hB.block _ (Array.getElem?_eq_some_iff.1 h.x).1).trans h.x, (hB.block _ (Array.getElem?_eq_some_iff.1 h.y).1).trans h.y, h.bel.trans (hB.mono h.bel.size)⟩
/-- The operation's box, at its place. -/
structure PS (n : Nat) (cs : Array Value) (w V : World) : Prop where
  x : V.heap[n]? = some (.cells cs 72 (0, 0))
  bel : Below w.heap.size w V
theorem PS.below {n : Nat} {cs : Array Value} {w V V' : World} (h : PS n cs w V) (hB : Below V.heap.size V V') : PS n cs w V' :=
  ⟨(hB.block _ (Array.getElem?_eq_some_iff.1 h.x).1).trans h.x, h.bel.trans (hB.mono h.bel.size)⟩
theorem stays2 {W : World} {R : Nat} (h : R < W.heap.size) : (∀ (o o' : Obj) (j : Nat), ((W.alloc o).alloc o').cell? ⟨R, j, none⟩ = W.cell? ⟨R, j, none⟩) ∧ (∀ (o o' : Obj) (j : Nat), ((W.alloc o).alloc o').frozen? ⟨R, j, none⟩ = W.frozen? ⟨R, j, none⟩) :=
  ⟨fun o o' j => (((Below.refl _ W).alloc (Nat.le_refl _) o).alloc (by simp) o').cell (p := ⟨R, j, none⟩) h, fun o o' j => (((Below.refl _ W).alloc (Nat.le_refl _) o).alloc (by simp) o').frozen (p := ⟨R, j, none⟩) h⟩
theorem stays3 {W : World} {R : Nat} (h : R < W.heap.size) : (∀ (o o' o'' : Obj) (j : Nat), (((W.alloc o).alloc o').alloc o'').cell? ⟨R, j, none⟩ = W.cell? ⟨R, j, none⟩) ∧ (∀ (o o' o'' : Obj) (j : Nat), (((W.alloc o).alloc o').alloc o'').frozen? ⟨R, j, none⟩ = W.frozen? ⟨R, j, none⟩) :=
  ⟨fun o o' o'' j => ((((Below.refl _ W).alloc (Nat.le_refl _) o).alloc (by simp) o').alloc (by simp; omega) o'').cell (p := ⟨R, j, none⟩) h, fun o o' o'' j => ((((Below.refl _ W).alloc (Nat.le_refl _) o).alloc (by simp) o').alloc (by simp; omega) o'').frozen (p := ⟨R, j, none⟩) h⟩
theorem two_boxes (W : World) (o1 o2 o3 : Obj) : (((W.alloc o1).alloc o2).alloc o3).heap[W.heap.size]? = some o1 ∧ (((W.alloc o1).alloc o2).alloc o3).heap[W.heap.size + 1]? = some o2 :=
  ⟨by rw [Below.heap_alloc _ _ _ (by simp; omega), Below.heap_alloc _ _ _ (by simp)]; exact heap_alloc_new W _, by rw [Below.heap_alloc _ _ _ (by simp)]; have := heap_alloc_new (W.alloc o1) o2; rwa [World.size_alloc] at this⟩
theorem grown_block {w w' : World} {row : Option Nat} (h : w.grownBy w' row) {b : Nat} (hb : b < w.heap.size) (hne : some b ≠ row) : w'.heap[b]? = w.heap[b]? := h.5 b hb hne
theorem news_eq {n : Nat} (w : World) (cs : Array Value) (hn : w.heap.size = n) (τ : TypeId) : ∀ j u, cs.toList[j]? = some u → (w.alloc (.cells cs τ)).cell? ((⟨n, 0, none⟩ : Addr).add j) = some u := by
  subst hn; exact news_at w cs τ
end Go.Proofs.YtbckogojnjmjcaaGreatDoor
