/-
  Try: the walk.
-/
import Derived.Test.YteekpfgjpdopmaaTr
namespace Go.Proofs.Yteekpfgjpdopmaa
open Go.RowKit
set_option linter.unusedVariables false

theorem Sta.drop {S : Nat → Prop} {w : World} {b off : Nat} {es : List Ent} (h : Sta S w (some ⟨b, off, none⟩) es) (q : Nat) : Sta S w (some ⟨b, off + q * 4, none⟩) (es.drop q) := fun w' hw => by
  obtain ⟨M, hM, hE⟩ := h w' hw
  have := hE.cut q es.length
  rw [List.take_of_length_le (by simp)] at this
  exact ⟨M, hM, this⟩

/-- Try's number. -/
def trA (P : PL) (i t : Int) (E : List En) : Int := if trY P i t E then i + (E.length : Int) else 0

theorem tr_no1 {P : PL} {i t c : Int} {E : List En} (h : trY P i t E = false) : trA P i t E = 0 ∧ trL P i t c E = P := by
  unfold trA trL
  rw [h]
  exact ⟨rfl, rfl⟩
theorem tr_yes {P : PL} {i t c : Int} {E : List En} (h : trY P i t E = true) : trA P i t E = i + (E.length : Int) ∧ trL P i t c E = coP (trP P i E) (min c (i + (E.length : Int))) := by
  unfold trA trL
  rw [h]
  exact ⟨rfl, rfl⟩

theorem sum_le {P : PL} (h : P.Ok) {i t : Int} {E : List En} (hh : P.has i t = true) (hc : ckList i t E = 0) : 0 ≤ i ∧ i + (E.length : Int) ≤ 4611686018427387904 := by
  obtain ⟨b1, b2, -⟩ := has_er hh
  obtain ⟨c1, c2, -⟩ := ckList_zero hc
  have h0 := h.b0
  have hl := h.lim
  refine ⟨by omega, ?_⟩
  by_cases hz : E.length = 0
  · omega
  · have e1 := c2 (E.length - 1) (by omega)
    have e2 := eCk_ok (c1 _ (getD_mem (k := E.length - 1) (by omega)))
    omega

theorem knN_in {P : PL} (h : P.Ok) {i t : Int} {E : List En} (hh : P.has i t = true) (hc : ckList i t E = 0) : (i - P.bi).toNat + knN P E ≤ P.E.length := by
  obtain ⟨b1, b2, b3⟩ := has_er hh
  obtain ⟨c1, c2, c3⟩ := ckList_zero hc
  by_cases hz : knN P E = 0
  · unfold PL.li at b2; omega
  · have hle := knN_le P E
    obtain ⟨d1, d2, d3⟩ := has_er (knN_has P E (knN P E - 1) (by omega))
    have e1 := c2 (knN P E - 1) (by omega)
    unfold PL.li at d2
    omega

set_option maxRecDepth 100000 in
set_option maxHeartbeats 4000000 in
/-- Try, refused ahead of put. -/
theorem Try_no {N : Nat} {S : Nat → Prop} {w : World} {b : Nat} {P : PL} (h : Lg N S w b P) (i t c : Int) (va : Option Addr) (vc : Nat) (fs : List Ent) (hS : Sta S w va fs) (hn : fs.length ≤ 100000) (hno : P.has i t = false ∨ ckList i t (fs.map Ent.says) ≠ 0) :
    Calls Try.prog 22 #[.pointer (some ⟨b, 0, none⟩), .int .i64 i, .int .i64 t, .int .i64 c, .slice va fs.length vc] w fun e w' => e = .returned (.tuple #[.int .i64 0, .bool false]) ∧ Below w.heap.size w w' := by
  have hh := Has_any h i t
  by_cases h1 : P.has i t = true
  · have hc := hno.resolve_left (by simp [h1])
    rw [h1] at hh
    obtain ⟨b1, b2, -⟩ := has_er h1
    have hlim := h.ok.lim
    have hb0 := h.ok.b0
    have HCE : Hid (∀ w1, Below w.heap.size w w1 → Calls Try.prog 73 #[.agg #[.int .i64 i, .int .i64 t], .slice va fs.length vc] w1 fun e w' => e = .returned (.int .i64 (ckList i t (fs.map Ent.says) : Int)) ∧ Below w1.heap.size w1 w') := fun w1 hB => by
      obtain ⟨M, hM, hE⟩ := hS w1 (Out.of_below hB)
      exact checkEntries_any i t va vc fs M w1 hE hM (by omega) ⟨by omega, by omega⟩
    generalize ckList i t (fs.map Ent.says) = q at *
    have hq : ((q : Int) != 0) = true := by simp; omega
    clear h hS hno h1 hc
    go_enter Try.func22, Try.ntmps22
    go_wp2_with fail
    refine hh.mono ?_
    rintro r w1 ⟨rfl, hB1⟩
    go_wp2_with fail
    refine (HCE.out w1 hB1).mono ?_
    rintro r w2 ⟨rfl, hB2⟩
    have hB3 := hB1.trans (hB2.mono hB1.size)
    clear hB1 hB2
    go_wp2
    go_returns
    exact ⟨rfl, hB3⟩
  · have h1' : P.has i t = false := by simpa using h1
    rw [h1'] at hh
    clear h hS hno h1 h1'
    go_enter Try.func22, Try.ntmps22
    go_wp2_with fail
    refine hh.mono ?_
    rintro r w1 ⟨rfl, hB1⟩
    go_wp2
    go_returns
    exact ⟨rfl, hB1⟩

set_option maxRecDepth 100000 in
set_option maxHeartbeats 4000000 in
/-- Try of what is known. -/
theorem Try_known {N : Nat} {S : Nat → Prop} {w : World} {b : Nat} {P : PL} (h : Lg N S w b P) (hN : N ≤ w.heap.size) (i t c : Int) (va : Option Addr) (vc : Nat) (fs : List Ent) (hS : Sta S w va fs) (hn : fs.length ≤ 100000) (hvc : fs.length ≤ vc) (hvm : vc ≤ maxLen) (h1 : P.has i t = true) (h2 : ckList i t (fs.map Ent.says) = 0) (hk : knN P (fs.map Ent.says) = fs.length) :
    Calls Try.prog 22 #[.pointer (some ⟨b, 0, none⟩), .int .i64 i, .int .i64 t, .int .i64 c, .slice va fs.length vc] w fun e w' => e = .returned (.tuple #[.int .i64 (i + (fs.length : Int)), .bool true]) ∧ LTh N S w w' b (coP P (min c (i + (fs.length : Int)))) := by
  have hh := Has_any h i t
  rw [h1] at hh
  obtain ⟨b1, b2, -⟩ := has_er h1
  have hlim := h.ok.lim
  have hb0 := h.ok.b0
  have hsum := sum_le h.ok h1 h2
  rw [List.length_map] at hsum
  have HCE : Hid (∀ w1, Below w.heap.size w w1 → Calls Try.prog 73 #[.agg #[.int .i64 i, .int .i64 t], .slice va fs.length vc] w1 fun e w' => e = .returned (.int .i64 0) ∧ Below w1.heap.size w1 w') := fun w1 hB => by
    obtain ⟨M, hM, hE⟩ := hS w1 (Out.of_below hB)
    have := checkEntries_any i t va vc fs M w1 hE hM (by omega) ⟨by omega, by omega⟩
    rw [h2] at this
    exact this
  have HKN : Hid (∀ w1, Below w.heap.size w w1 → Calls Try.prog 74 #[.pointer (some ⟨b, 0, none⟩), .slice va fs.length vc] w1 fun e w' => e = .returned (.int .i64 (fs.length : Int)) ∧ Below w1.heap.size w1 w') := fun w1 hB => by
    obtain ⟨M, hM, hE⟩ := hS w1 (Out.of_below hB)
    have := known_any (h.below hB) va vc fs M hE hM (by omega)
    rw [hk] at this
    exact this
  have HCO : Hid (∀ w1 X, Below w.heap.size w w1 → min c (i + (fs.length : Int)) = X → Calls Try.prog 29 #[.pointer (some ⟨b, 0, none⟩), .int .i64 X] w1 fun e w' => (∃ q, e = .returned (.bool q)) ∧ LTh N S w w' b (coP P (min c (i + (fs.length : Int))))) := fun w1 X hB hX => by
    subst hX
    exact (Commit_any (h.below hB) (by have := hB.size; omega) _).mono (fun e w' h1 => ⟨⟨_, h1.1⟩, (h1.2.pre hB).th hN⟩)
  unfold maxLen at hvm
  clear h hS h1 h2 hk
  generalize fs.length = n at *
  by_cases a1 : c ≤ i + (n : Int)
  · have hX : min c (i + (n : Int)) = c := by omega
    cases va with
    | none =>
      go_enter Try.func22, Try.ntmps22
      go_wp2_with fail
      refine hh.mono ?_
      rintro r w1 ⟨rfl, hB1⟩
      go_wp2_with fail
      refine (HCE.out w1 hB1).mono ?_
      rintro r w2 ⟨rfl, hB2⟩
      have hB3 := hB1.trans (hB2.mono hB1.size)
      clear hB1 hB2
      go_wp2_with fail
      refine (HKN.out w2 hB3).mono ?_
      rintro r w3 ⟨rfl, hB4⟩
      have hB5 := hB3.trans (hB4.mono hB3.size)
      clear hB3 hB4
      go_wp2_with fail
      all_goals
        refine (HCO.out w3 c hB5 hX).mono ?_
        rintro r w4 ⟨⟨qq, rfl⟩, hT⟩
        go_wp2
        go_returns
        exact ⟨rfl, hT⟩
    | some ad =>
      go_enter Try.func22, Try.ntmps22
      go_wp2_with fail
      refine hh.mono ?_
      rintro r w1 ⟨rfl, hB1⟩
      go_wp2_with fail
      refine (HCE.out w1 hB1).mono ?_
      rintro r w2 ⟨rfl, hB2⟩
      have hB3 := hB1.trans (hB2.mono hB1.size)
      clear hB1 hB2
      go_wp2_with fail
      refine (HKN.out w2 hB3).mono ?_
      rintro r w3 ⟨rfl, hB4⟩
      have hB5 := hB3.trans (hB4.mono hB3.size)
      clear hB3 hB4
      go_wp2_with fail
      all_goals
        refine (HCO.out w3 c hB5 hX).mono ?_
        rintro r w4 ⟨⟨qq, rfl⟩, hT⟩
        go_wp2
        go_returns
        exact ⟨rfl, hT⟩
  · have hX : min c (i + (n : Int)) = i + (n : Int) := by omega
    cases va with
    | none =>
      go_enter Try.func22, Try.ntmps22
      go_wp2_with fail
      refine hh.mono ?_
      rintro r w1 ⟨rfl, hB1⟩
      go_wp2_with fail
      refine (HCE.out w1 hB1).mono ?_
      rintro r w2 ⟨rfl, hB2⟩
      have hB3 := hB1.trans (hB2.mono hB1.size)
      clear hB1 hB2
      go_wp2_with fail
      refine (HKN.out w2 hB3).mono ?_
      rintro r w3 ⟨rfl, hB4⟩
      have hB5 := hB3.trans (hB4.mono hB3.size)
      clear hB3 hB4
      go_wp2_with fail
      all_goals
        refine (HCO.out w3 (i + (n : Int)) hB5 hX).mono ?_
        rintro r w4 ⟨⟨qq, rfl⟩, hT⟩
        go_wp2
        go_returns
        exact ⟨rfl, hT⟩
    | some ad =>
      go_enter Try.func22, Try.ntmps22
      go_wp2_with fail
      refine hh.mono ?_
      rintro r w1 ⟨rfl, hB1⟩
      go_wp2_with fail
      refine (HCE.out w1 hB1).mono ?_
      rintro r w2 ⟨rfl, hB2⟩
      have hB3 := hB1.trans (hB2.mono hB1.size)
      clear hB1 hB2
      go_wp2_with fail
      refine (HKN.out w2 hB3).mono ?_
      rintro r w3 ⟨rfl, hB4⟩
      have hB5 := hB3.trans (hB4.mono hB3.size)
      clear hB3 hB4
      go_wp2_with fail
      all_goals
        refine (HCO.out w3 (i + (n : Int)) hB5 hX).mono ?_
        rintro r w4 ⟨⟨qq, rfl⟩, hT⟩
        go_wp2
        go_returns
        exact ⟨rfl, hT⟩


set_option maxRecDepth 100000 in
set_option maxHeartbeats 4000000 in
/-- Try of others. -/
theorem Try_new {N : Nat} {S : Nat → Prop} {w : World} {b : Nat} {P : PL} (h : Lg N S w b P) (hN : N ≤ w.heap.size) (i t c : Int) (b1 off : Nat) (vc : Nat) (fs : List Ent) (hS : Sta S w (some ⟨b1, off, none⟩) fs) (hn : fs.length ≤ 100000) (hvc : fs.length ≤ vc) (hvm : vc ≤ maxLen) (h1 : P.has i t = true) (h2 : ckList i t (fs.map Ent.says) = 0) (hk : knN P (fs.map Ent.says) < fs.length) (hy : puY P ((i - P.bi).toNat + knN P (fs.map Ent.says)) (fs.length - knN P (fs.map Ent.says)) = true) :
    Calls Try.prog 22 #[.pointer (some ⟨b, 0, none⟩), .int .i64 i, .int .i64 t, .int .i64 c, .slice (some ⟨b1, off, none⟩) fs.length vc] w fun e w' => e = .returned (.tuple #[.int .i64 (i + (fs.length : Int)), .bool true]) ∧ LTh N S w w' b (coP (puP P ((i - P.bi).toNat + knN P (fs.map Ent.says)) ((fs.map Ent.says).drop (knN P (fs.map Ent.says)))) (min c (i + (fs.length : Int)))) := by
  have hh := Has_any h i t
  rw [h1] at hh
  obtain ⟨b1', b2', -⟩ := has_er h1
  have hlim := h.ok.lim
  have hb0 := h.ok.b0
  have hsum := sum_le h.ok h1 h2
  rw [List.length_map] at hsum
  obtain ⟨c1, c2, -⟩ := ckList_zero h2
  have hfit := put_fits h.ok h1 h2 (by rw [List.length_map]; exact hk) (by rw [List.length_map]; exact hy)
  obtain ⟨q, hq⟩ : ∃ q, knN P (fs.map Ent.says) = q := ⟨_, rfl⟩
  have HCE : Hid (∀ w1, Below w.heap.size w w1 → Calls Try.prog 73 #[.agg #[.int .i64 i, .int .i64 t], .slice (some ⟨b1, off, none⟩) fs.length vc] w1 fun e w' => e = .returned (.int .i64 0) ∧ Below w1.heap.size w1 w') := fun w1 hB => by
    obtain ⟨M, hM, hE⟩ := hS w1 (Out.of_below hB)
    have := checkEntries_any i t _ vc fs M w1 hE hM (by omega) ⟨by omega, by omega⟩
    rw [h2] at this
    exact this
  have HKN : Hid (∀ w1, Below w.heap.size w w1 → Calls Try.prog 74 #[.pointer (some ⟨b, 0, none⟩), .slice (some ⟨b1, off, none⟩) fs.length vc] w1 fun e w' => e = .returned (.int .i64 (q : Int)) ∧ Below w1.heap.size w1 w') := fun w1 hB => by
    obtain ⟨M, hM, hE⟩ := hS w1 (Out.of_below hB)
    have := known_any (h.below hB) _ vc fs M hE hM (by omega)
    rw [hq] at this
    exact this
  rw [hq] at hk hy hfit ⊢
  have hi0 : ((fs.drop q).getD 0 nilEnt).i = P.bi + (((i - P.bi).toNat + q : Nat) : Int) + 1 := by
    rw [getD_drop', Nat.add_zero]
    have e1 := c2 q (by rw [List.length_map]; exact hk)
    have e2 := (ent_says (es := fs) rfl q).2.1
    rw [e2, e1]
    omega
  have hds : ∀ e ∈ fs.drop q, e.d.length ≤ 1000000000 := fun e he => by
    have := (eCk_ok (c1 e.says (List.mem_map.2 ⟨e, List.mem_of_mem_drop he, rfl⟩))).2.2.2.2
    have h3 : e.d.length ≤ 4096 := this
    omega
  have HPU : Hid (∀ w1, Below w.heap.size w w1 → Calls Try.prog 75 #[.pointer (some ⟨b, 0, none⟩), .slice (some ⟨b1, off + q * 4, none⟩) (fs.length - q) (vc - q)] w1 fun e w' => e = .returned (.bool true) ∧ LTh N S w1 w' b (puP P ((i - P.bi).toNat + q) ((fs.map Ent.says).drop q))) := fun w1 hB => by
    have := put_ok (h.below hB) (by have := hB.size; omega) (some ⟨b1, off + q * 4, none⟩) (vc - q) (fs.drop q) ((i - P.bi).toNat + q) ((hS.out (Out.of_below hB)).drop q) (by simp; omega) hds (by simp; omega) hi0 hfit.1 (by rw [List.length_drop]; exact hy) (by rw [List.map_drop]; exact hfit.2)
    rw [List.length_drop, List.map_drop] at this
    exact this
  have HCO : Hid (∀ w1 w2 X, Below w.heap.size w w1 → LTh N S w1 w2 b (puP P ((i - P.bi).toNat + q) ((fs.map Ent.says).drop q)) → min c (i + (fs.length : Int)) = X → Calls Try.prog 29 #[.pointer (some ⟨b, 0, none⟩), .int .i64 X] w2 fun e w' => (∃ q, e = .returned (.bool q)) ∧ LTh N S w w' b (coP (puP P ((i - P.bi).toNat + q) ((fs.map Ent.says).drop q)) (min c (i + (fs.length : Int))))) := fun w1 w2 X hB hT hX => by
    subst hX
    have hT' := hT.pre h hN hB
    have hN2 : N ≤ w2.heap.size := Nat.le_trans hN hT'.out.size
    exact (Commit_any hT'.q hN2 _).mono (fun e w' h1 => ⟨⟨_, h1.1⟩, hT'.trans (h1.2.th hN2)⟩)
  unfold maxLen at hvm
  have hqv : q < vc := by omega
  have hqv' : ¬ vc = q := by omega
  have hql : (0 : Int) < ((fs.length - q : Nat) : Int) := by omega
  have HKK : Hid (q < fs.length) := hk
  have hql' : (q : Int) ≤ (fs.length : Int) := by omega
  clear h hS h1 h2 hk hq hfit hi0 hds c1 c2 hy
  by_cases a1 : c ≤ i + (fs.length : Int)
  · have hX : min c (i + (fs.length : Int)) = c := by omega
    have HX : Hid (min c (i + (fs.length : Int)) = c) := hX
    clear hX
    go_enter Try.func22, Try.ntmps22
    go_wp2_with fail
    refine hh.mono ?_
    rintro r w1 ⟨rfl, hB1⟩
    go_wp2_with fail
    refine (HCE.out w1 hB1).mono ?_
    rintro r w2 ⟨rfl, hB2⟩
    have hB3 := hB1.trans (hB2.mono hB1.size)
    clear hB1 hB2
    go_wp2_with fail
    refine (HKN.out w2 hB3).mono ?_
    rintro r w3 ⟨rfl, hB4⟩
    have hB5 := hB3.trans (hB4.mono hB3.size)
    clear hB3 hB4
    go_wp2_with fail
    refine (HPU.out w3 hB5).mono ?_
    rintro r w4 ⟨rfl, hT4⟩
    go_wp2_with fail
    refine (HCO.out w3 w4 c hB5 hT4 HX.out).mono ?_
    rintro r w5 ⟨⟨qq, rfl⟩, hT⟩
    go_wp2
    go_returns
    exact ⟨rfl, hT⟩
  · have hX : min c (i + (fs.length : Int)) = i + (fs.length : Int) := by omega
    have HX : Hid (min c (i + (fs.length : Int)) = i + (fs.length : Int)) := hX
    clear hX
    go_enter Try.func22, Try.ntmps22
    go_wp2_with fail
    refine hh.mono ?_
    rintro r w1 ⟨rfl, hB1⟩
    go_wp2_with fail
    refine (HCE.out w1 hB1).mono ?_
    rintro r w2 ⟨rfl, hB2⟩
    have hB3 := hB1.trans (hB2.mono hB1.size)
    clear hB1 hB2
    go_wp2_with fail
    refine (HKN.out w2 hB3).mono ?_
    rintro r w3 ⟨rfl, hB4⟩
    have hB5 := hB3.trans (hB4.mono hB3.size)
    clear hB3 hB4
    go_wp2_with fail
    refine (HPU.out w3 hB5).mono ?_
    rintro r w4 ⟨rfl, hT4⟩
    go_wp2_with fail
    refine (HCO.out w3 w4 (i + (fs.length : Int)) hB5 hT4 HX.out).mono ?_
    rintro r w5 ⟨⟨qq, rfl⟩, hT⟩
    go_wp2
    go_returns
    exact ⟨rfl, hT⟩

set_option maxRecDepth 100000 in
set_option maxHeartbeats 4000000 in
/-- Try of others that may not be put. -/
theorem Try_full {N : Nat} {S : Nat → Prop} {w : World} {b : Nat} {P : PL} (h : Lg N S w b P) (i t c : Int) (b1 off : Nat) (vc : Nat) (fs : List Ent) (hS : Sta S w (some ⟨b1, off, none⟩) fs) (hn : fs.length ≤ 100000) (hvc : fs.length ≤ vc) (hvm : vc ≤ maxLen) (h1 : P.has i t = true) (h2 : ckList i t (fs.map Ent.says) = 0) (hk : knN P (fs.map Ent.says) < fs.length) (hy : puY P ((i - P.bi).toNat + knN P (fs.map Ent.says)) (fs.length - knN P (fs.map Ent.says)) = false) :
    Calls Try.prog 22 #[.pointer (some ⟨b, 0, none⟩), .int .i64 i, .int .i64 t, .int .i64 c, .slice (some ⟨b1, off, none⟩) fs.length vc] w fun e w' => e = .returned (.tuple #[.int .i64 0, .bool false]) ∧ Below w.heap.size w w' := by
  have hh := Has_any h i t
  rw [h1] at hh
  obtain ⟨b1', b2', b3'⟩ := has_er h1
  have hlim := h.ok.lim
  have hb0 := h.ok.b0
  obtain ⟨c1, c2, -⟩ := ckList_zero h2
  have hA := knN_in h.ok h1 h2
  obtain ⟨q, hq⟩ : ∃ q, knN P (fs.map Ent.says) = q := ⟨_, rfl⟩
  have HCE : Hid (∀ w1, Below w.heap.size w w1 → Calls Try.prog 73 #[.agg #[.int .i64 i, .int .i64 t], .slice (some ⟨b1, off, none⟩) fs.length vc] w1 fun e w' => e = .returned (.int .i64 0) ∧ Below w1.heap.size w1 w') := fun w1 hB => by
    obtain ⟨M, hM, hE⟩ := hS w1 (Out.of_below hB)
    have := checkEntries_any i t _ vc fs M w1 hE hM (by omega) ⟨by omega, by omega⟩
    rw [h2] at this
    exact this
  have HKN : Hid (∀ w1, Below w.heap.size w w1 → Calls Try.prog 74 #[.pointer (some ⟨b, 0, none⟩), .slice (some ⟨b1, off, none⟩) fs.length vc] w1 fun e w' => e = .returned (.int .i64 (q : Int)) ∧ Below w1.heap.size w1 w') := fun w1 hB => by
    obtain ⟨M, hM, hE⟩ := hS w1 (Out.of_below hB)
    have := known_any (h.below hB) _ vc fs M hE hM (by omega)
    rw [hq] at this
    exact this
  rw [hq] at hk hy hA
  have hi0 : ((fs.drop q).getD 0 nilEnt).i = P.bi + (((i - P.bi).toNat + q : Nat) : Int) + 1 := by
    rw [getD_drop', Nat.add_zero]
    have e1 := c2 q (by rw [List.length_map]; exact hk)
    have e2 := (ent_says (es := fs) rfl q).2.1
    rw [e2, e1]
    omega
  have HPU : Hid (∀ w1, Below w.heap.size w w1 → Calls Try.prog 75 #[.pointer (some ⟨b, 0, none⟩), .slice (some ⟨b1, off + q * 4, none⟩) (fs.length - q) (vc - q)] w1 fun e w' => e = .returned (.bool false) ∧ Below w1.heap.size w1 w') := fun w1 hB => by
    have := put_no (h.below hB) (some ⟨b1, off + q * 4, none⟩) (vc - q) (fs.drop q) ((i - P.bi).toNat + q) ((hS.out (Out.of_below hB)).drop q) (by simp; omega) (by simp; omega) hi0 hA (by rw [List.length_drop]; exact hy)
    rw [List.length_drop] at this
    exact this
  unfold maxLen at hvm
  have hqv : q < vc := by omega
  have hqv' : ¬ vc = q := by omega
  have hql : (0 : Int) < ((fs.length - q : Nat) : Int) := by omega
  have HKK : Hid (q < fs.length) := hk
  have hql' : (q : Int) ≤ (fs.length : Int) := by omega
  clear h hS h1 h2 hk hq hi0 c1 c2 hy
  go_enter Try.func22, Try.ntmps22
  go_wp2_with fail
  refine hh.mono ?_
  rintro r w1 ⟨rfl, hB1⟩
  go_wp2_with fail
  refine (HCE.out w1 hB1).mono ?_
  rintro r w2 ⟨rfl, hB2⟩
  have hB3 := hB1.trans (hB2.mono hB1.size)
  clear hB1 hB2
  go_wp2_with fail
  refine (HKN.out w2 hB3).mono ?_
  rintro r w3 ⟨rfl, hB4⟩
  have hB5 := hB3.trans (hB4.mono hB3.size)
  clear hB3 hB4
  go_wp2_with fail
  refine (HPU.out w3 hB5).mono ?_
  rintro r w4 ⟨rfl, hB6⟩
  have hB7 := hB5.trans (hB6.mono hB5.size)
  clear hB5 hB6
  go_wp2
  go_returns
  exact ⟨rfl, hB7⟩

/-- Try. -/
theorem Try_any {N : Nat} {S : Nat → Prop} {w : World} {b : Nat} {P : PL} (h : Lg N S w b P) (hN : N ≤ w.heap.size) (i t c : Int) (va : Option Addr) (vc : Nat) (fs : List Ent) (hS : Sta S w va fs) (hn : fs.length ≤ 100000) (hvc : fs.length ≤ vc) (hvm : vc ≤ maxLen) :
    Calls Try.prog 22 #[.pointer (some ⟨b, 0, none⟩), .int .i64 i, .int .i64 t, .int .i64 c, .slice va fs.length vc] w fun e w' => e = .returned (.tuple #[.int .i64 (trA P i t (fs.map Ent.says)), .bool (trY P i t (fs.map Ent.says))]) ∧ LTh N S w w' b (trL P i t c (fs.map Ent.says)) := by
  obtain ⟨E, hE⟩ : ∃ E, fs.map Ent.says = E := ⟨_, rfl⟩
  have hlE : E.length = fs.length := by rw [← hE]; simp
  have hkle := knN_le P E
  by_cases h1 : P.has i t = true
  · by_cases h2 : ckList i t E = 0
    · by_cases h3 : knN P E = E.length
      · have hY : trY P i t E = true := by unfold trY; rw [h1, h2, h3]; simp
        obtain ⟨e1, e2⟩ := tr_yes (c := c) hY
        have e3 : trP P i E = P := by unfold trP; rw [h3]; simp
        rw [hE, hY, e1, e2, e3, hlE]
        exact Try_known h hN i t c va vc fs hS hn hvc hvm h1 (by rw [hE]; exact h2) (by rw [hE, h3, hlE])
      · have hlt : knN P E < E.length := by omega
        have hemp : (E.drop (knN P E)).isEmpty = false := by simp; omega
        have hsome : ∃ b1 off, va = some ⟨b1, off, none⟩ := by
          obtain ⟨M, hM, hEE⟩ := hS.at
          obtain ⟨b1, off, e, -⟩ := hEE.at (i := 0) (by omega)
          exact ⟨b1, off, e⟩
        obtain ⟨b1, off, rfl⟩ := hsome
        by_cases h4 : puY P ((i - P.bi).toNat + knN P E) (E.length - knN P E) = true
        · have hY : trY P i t E = true := by unfold trY; rw [h1, h2, hemp, h4]; simp
          obtain ⟨e1, e2⟩ := tr_yes (c := c) hY
          have e3 : trP P i E = puP P ((i - P.bi).toNat + knN P E) (E.drop (knN P E)) := by unfold trP; rw [hemp]; rfl
          have := Try_new h hN i t c b1 off vc fs hS hn hvc hvm h1 (by rw [hE]; exact h2) (by rw [hE]; omega) (by rw [hE, ← hlE]; exact h4)
          rw [hE] at this
          rw [hE, hY, e1, e2, e3, hlE]
          exact this
        · have h4' : puY P ((i - P.bi).toNat + knN P E) (E.length - knN P E) = false := by simpa using h4
          have hY : trY P i t E = false := by unfold trY; rw [h1, h2, hemp, h4']; simp
          obtain ⟨e1, e2⟩ := tr_no1 (c := c) hY
          rw [hE, hY, e1, e2]
          exact (Try_full h i t c b1 off vc fs hS hn hvc hvm h1 (by rw [hE]; exact h2) (by rw [hE]; omega) (by rw [hE, ← hlE]; exact h4')).mono (fun e w' hx => ⟨hx.1, h.th hN hx.2⟩)
    · have hY : trY P i t E = false := by unfold trY; rw [h1]; simp [h2]
      obtain ⟨e1, e2⟩ := tr_no1 (c := c) hY
      rw [hE, hY, e1, e2]
      exact (Try_no h i t c va vc fs hS hn (.inr (by rw [hE]; exact h2))).mono (fun e w' hx => ⟨hx.1, h.th hN hx.2⟩)
  · have h1' : P.has i t = false := by simpa using h1
    have hY : trY P i t E = false := by unfold trY; rw [h1']; simp
    obtain ⟨e1, e2⟩ := tr_no1 (c := c) hY
    rw [hE, hY, e1, e2]
    exact (Try_no h i t c va vc fs hS hn (.inl h1')).mono (fun e w' hx => ⟨hx.1, h.th hN hx.2⟩)
end Go.Proofs.Yteekpfgjpdopmaa
