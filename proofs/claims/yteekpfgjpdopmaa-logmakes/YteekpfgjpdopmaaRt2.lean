/-
  The document's log: Try.
-/
import Derived.Test.YteekpfgjpdopmaaRo
import Derived.Deep.RegionHeld3
import Derived.Test.YteekpfgjpdopmaaTy
namespace Go.Proofs.Yteekpfgjpdopmaa
open Go.RowKit
set_option linter.unusedVariables false

theorem RTh.rk {N : Nat} {S : Nat → Prop} {w w1 w' : World} {b : Nat} {P Q : PL} (h : RTh N S w w1 b P) (k : RK N (grew S w w1) w1 w' b Q) (hN : N ≤ w.heap.size) : RTh N S w w' b Q := by
  have := k.th (Nat.le_trans hN h.out.size)
  exact h.trans this
/-- Copies of entries, whoever asks. -/
def Src (w : World) (a : Option Addr) (n c : Nat) (L : List En) : Prop := ∀ X, Below w.heap.size w X → Calls Try.prog 16 #[.slice a n c] X fun e w' => ∃ v gs, e = .returned v ∧ EntsOw w.heap.size w' v gs ∧ gs.map Ent.says = L ∧ gs.length = n ∧ Below w.heap.size w w' ∧ Below X.heap.size X w'
theorem EntsOw.wide {N M : Nat} {w : World} {v : Value} {es : List Ent} (h : EntsOw N w v es) (hN : M ≤ N) : EntsOw M w v es := h.base hN

theorem RTh.post {N : Nat} {S : Nat → Prop} {w w1 w' : World} {b : Nat} {P : PL} (h : RTh N S w w1 b P) (hB : Below w1.heap.size w1 w') (hN : N ≤ w.heap.size) : RTh N S w w' b P :=
  h.rk (h.q.rk hB) hN
/-- The entries, the marks handed and stable are written. -/
theorem Rg.put3 {N : Nat} {S : Nat → Prop} {w w9 : World} {b : Nat} {P : PL} (h : Rg N S w b P) (hN : N ≤ w.heap.size) (hB : Below w.heap.size w w9) {v' : Value} {gs : List Ent} (hF : EntsOw w.heap.size w9 v' gs) (k0 : Nat) (F : List En) (hE : gs.map Ent.says = P.E.take k0 ++ F) (x y : Int) (hx : x = min P.h (P.bi + (k0 : Int))) (hy : y = min P.s (P.bi + (k0 : Int))) (ok : (puP P k0 F).Ok) :
    RTh N S w (((w9.setCell ⟨b, 2, none⟩ v').setCell ⟨b, 3, none⟩ (.int .i64 x)).setCell ⟨b, 4, none⟩ (.int .i64 y)) b (puP P k0 F) := by
  have h1 := h.rw.ents (Q := { P with E := P.E.take k0 ++ F }) hN hB hF hE ⟨rfl, rfl, rfl, rfl, rfl, rfl, rfl⟩
  have h2 := h1.1.store (Q := { P with E := P.E.take k0 ++ F, h := x }) 3 (.int .i64 x) rfl (fun v => rfl)
  have h3 := h2.1.store (Q := puP P k0 F) 4 (.int .i64 y) rfl (fun v => by unfold puP; rw [← hx, ← hy]; rfl)
  have hz : (((w9.setCell ⟨b, 2, none⟩ v').setCell ⟨b, 3, none⟩ (.int .i64 x)).setCell ⟨b, 4, none⟩ (.int .i64 y)).heap.size = w9.heap.size := by rw [size_set, size_set, size_set]
  have hg : grew S w (((w9.setCell ⟨b, 2, none⟩ v').setCell ⟨b, 3, none⟩ (.int .i64 x)).setCell ⟨b, 4, none⟩ (.int .i64 y)) = grew S w w9 := by unfold grew; rw [hz]
  have hsub : ∀ i, grew S w w9 i → i < w.heap.size → S i := fun i hi hl => hi.elim id (fun q => absurd q.1 (by omega))
  refine ⟨by rw [hg]; exact h3.1.rg ok, ?_⟩
  exact (h1.2.trans h2.2 hsub).trans h3.2 hsub

set_option maxRecDepth 100000 in
set_option maxHeartbeats 16000000 in
theorem RTry_any {N : Nat} {S : Nat → Prop} {w : World} {b : Nat} {P : PL} (h : Rg N S w b P) (hN : N ≤ w.heap.size) (i t c : Int) (va : Option Addr) (vc : Nat) (fs : List Ent) (M : Nat) (hE : EntsAt M w va fs) (hM : M ≤ w.heap.size) (hn : fs.length ≤ 10000) (hvc : fs.length ≤ vc) (hvm : vc ≤ maxLen) (hck : ckList i t (fs.map Ent.says) = 0) :
    Calls Try.prog 23 #[.pointer (some ⟨b, 0, none⟩), .int .i64 i, .int .i64 t, .int .i64 c, .slice va fs.length vc] w fun e w' => e = .returned (.tuple #[.int .i64 (trA P i t (fs.map Ent.says)), .bool (trY P i t (fs.map Ent.says))]) ∧ RTh N S w w' b (trL P i t c (fs.map Ent.says)) := by
  obtain ⟨F, hF⟩ : ∃ F, fs.map Ent.says = F := ⟨_, rfl⟩
  have hlF : F.length = fs.length := by rw [← hF]; simp
  rw [hF] at hck ⊢
  have HHAS : Hid (∀ w1 x y, Below w.heap.size w w1 → Calls Try.prog 60 #[.pointer (some ⟨b, 0, none⟩), .int .i64 x, .int .i64 y] w1 fun e w' => e = .returned (.bool (P.has x y)) ∧ Below w1.heap.size w1 w') := fun w1 x y hB => RHas_any (h.below hB) x y
  cases hhas : P.has i t with
  | false =>
    have hy : trY P i t F = false := by unfold trY; rw [hhas]; rfl
    obtain ⟨y1, y2⟩ := tr_no1 (c := c) hy
    have H0 := HHAS.out w i t (Below.refl _ _)
    rw [hhas] at H0
    rw [y1, y2, hy]
    have HR : Hid (∀ w1, Below w.heap.size w w1 → RTh N S w w1 b P) := fun w1 hB => h.th hN hB
    clear h hE hck HHAS y1 y2 hy
    go_enter Try.func23, Try.ntmps23
    go_wp2_with (go_at_call 60; refine H0.mono ?_; rintro r w1 ⟨rfl, hB1⟩)
    go_returns
    exact ⟨rfl, HR.out _ hB1⟩
  | true =>
  obtain ⟨b1, b2, b3⟩ := has_er hhas
  obtain ⟨c1, c2, c3⟩ := ckList_zero hck
  have hlim := h.ok.lim
  have h0 := h.ok.b0
  have hlen := h.ok.len
  obtain ⟨q, hq⟩ : ∃ q, knN P F = q := ⟨_, rfl⟩
  have hqn : q ≤ fs.length := by have := knN_le P F; omega
  have HE : Hid (EntsAt M w va fs) := hE
  have HM : Hid (M ≤ w.heap.size) := hM
  have HQ : Hid (knN P (F.drop 0) = q) := by show _ = _; rw [List.drop_zero]; exact hq
  have HCM : Hid (∀ wz P' x, RTh N S w wz b P' → Calls Try.prog 47 #[.pointer (some ⟨b, 0, none⟩), .int .i64 x] wz fun e w' => (∃ g, e = .returned (.bool g)) ∧ RTh N S w w' b (coP P' x)) := fun wz P' x hT => by
    refine (RCommit_any hT.q x).mono ?_
    rintro e w' ⟨rfl, hK⟩
    exact ⟨⟨_, rfl⟩, hT.rk hK hN⟩
  have hsl : i + (fs.length : Int) ≤ 4611686018427387904 := by
    by_cases hz : fs.length = 0
    · omega
    · have e1 := c2 (fs.length - 1) (by omega)
      have e2 := eCk_ok (c1 _ (getD_mem (E := F) (k := fs.length - 1) (by omega)))
      omega
  have hsw : IntKind.i64.wrap (i + (fs.length : Int)) = i + (fs.length : Int) := by rw [IntKind.wrap_i64]; omega
  have H0 := HHAS.out w i t (Below.refl _ _)
  rw [hhas] at H0
  -- all are known
  have HA : Hid (q = fs.length → trA P i t F = i + (fs.length : Int) ∧ trY P i t F = true ∧ (∀ w1 x, Below w.heap.size w w1 → x = min c (i + (fs.length : Int)) → trL P i t c F = coP P x) ∧ (∀ w1, Below w.heap.size w w1 → RTh N S w w1 b P)) := fun e => by
    have hd : (F.drop (knN P F)).isEmpty = true := by rw [hq, e, ← hlF, List.drop_length]; rfl
    have hy : trY P i t F = true := by unfold trY; rw [hhas, hck, hd]; rfl
    refine ⟨by unfold trA; rw [if_pos hy, hlF], hy, fun w1 x hB hx => ?_, fun w1 hB => h.th hN hB⟩
    unfold trL trP
    rw [if_pos hy, if_pos hd, hlF, hx]
  obtain ⟨n0, hn0⟩ : ∃ n0 : Nat, i = P.bi + (n0 : Int) := ⟨(i - P.bi).toNat, by omega⟩
  have hi0 : (i - P.bi).toNat = n0 := by omega
  have HN : Hid (q < fs.length → puY P (n0 + q) (fs.length - q) = false → trA P i t F = 0 ∧ trY P i t F = false ∧ trL P i t c F = P ∧ ∀ w1, Below w.heap.size w w1 → RTh N S w w1 b P) := fun hlt hpu => by
    have hd : (F.drop (knN P F)).isEmpty = false := by rw [hq]; simp; omega
    have hy : trY P i t F = false := by unfold trY; rw [hd, hi0, hq, hlF, hpu]; simp
    obtain ⟨y1, y2⟩ := tr_no1 (c := c) hy
    exact ⟨y1, hy, y2, fun w1 hB => h.th hN hB⟩
  have HP : Hid (q < fs.length → puY P (n0 + q) (fs.length - q) = true → trA P i t F = i + (fs.length : Int) ∧ trY P i t F = true ∧ n0 + q ≤ P.E.length ∧ (∀ x, x = min c (i + (fs.length : Int)) → trL P i t c F = coP (puP P (n0 + q) (F.drop q)) x) ∧ ∀ (w9 : World) (v' : Value) (gs : List Ent) (x y : Int), Below w.heap.size w w9 → EntsOw w.heap.size w9 v' gs → gs.map Ent.says = P.E.take (n0 + q) ++ F.drop q → x = min P.h (P.bi + ((n0 + q : Nat) : Int)) → y = min P.s (P.bi + ((n0 + q : Nat) : Int)) → RTh N S w (((w9.setCell ⟨b, 2, none⟩ v').setCell ⟨b, 3, none⟩ (.int .i64 x)).setCell ⟨b, 4, none⟩ (.int .i64 y)) b (puP P (n0 + q) (F.drop q))) := fun hlt hpu => by
    have hd : (F.drop (knN P F)).isEmpty = false := by rw [hq]; simp; omega
    have hy : trY P i t F = true := by unfold trY; rw [hhas, hck, hd, hi0, hq, hlF, hpu]; rfl
    have hfit := put_fits h.ok hhas hck (by omega) (by rw [hi0, hq, hlF]; exact hpu)
    rw [hi0, hq] at hfit
    refine ⟨by unfold trA; rw [if_pos hy, hlF], hy, hfit.1, fun x hx => ?_, fun w9 v' gs x y hB hO hsy hx hyy => h.put3 hN hB hO (n0 + q) (F.drop q) hsy x y hx hyy hfit.2⟩
    unfold trL trP
    rw [if_pos hy, hd, hi0, hq, hlF, hx]
    rfl
  have HIX : Hid (∀ k, k < fs.length → (fs.getD k nilEnt).i = i + 1 + (k : Int) ∧ F.drop k = (fs.getD k nilEnt).says :: F.drop (k + 1)) := fun k hk => by
    refine ⟨?_, ?_⟩
    · have e1 := c2 k (by omega)
      rw [← hF, says_getD] at e1
      exact e1
    · rw [← hF]; exact saysdrop hk
  obtain ⟨ea, ec, hec, hem, hsh, hcs, hcp⟩ := h.copy
  have HCS : Hid (∀ w1, Below w.heap.size w w1 → _) := hcs
  -- the two pieces
  have HS1 : Hid (∀ k0, k0 ≤ P.E.length → ∀ w6, Below w.heap.size w w6 → Src w6 ea k0 ec (P.E.take k0)) := fun k0 hk w6 hB6 X hX => by
    have hBX := hB6.trans (hX.mono hB6.size)
    have := hcp 0 k0 (by omega) X ea ec hBX (hsh.elim (fun q => .inl (by omega)) (fun ⟨g, q⟩ => .inr (.inr ⟨g, q, by rw [q]⟩)))
    rw [List.drop_zero] at this
    refine this.mono ?_
    rintro e w' ⟨v, gs, rfl, q1, q2, q3⟩
    exact ⟨v, gs, rfl, q1.base hX.size, q2, by have := congrArg List.length q2; simp at this; omega, hX.trans (q3.mono hX.size), q3⟩
  have HS2 : Hid (∀ k, k < fs.length → ∀ w6, Below w.heap.size w w6 → ∀ g off, va = some ⟨g, off, none⟩ → Src w6 (some ⟨g, off + k * 4, none⟩) (fs.length - k) (vc - k) (F.drop k)) := fun k hk w6 hB6 g off hva X hX => by
    have hBX := hB6.trans (hX.mono hB6.size)
    subst hva
    have hat := ((HE.out.below (hBX.mono HM.out)).cut k (fs.length - k))
    have hll : ((fs.drop k).take (fs.length - k)).length = fs.length - k := by simp
    have hd : ∀ e ∈ (fs.drop k).take (fs.length - k), e.d.length ≤ 1000000000 := fun e he => by
      have := eCk_ok (c1 e.says (by rw [← hF]; exact List.mem_map.2 ⟨e, List.mem_of_mem_drop (List.mem_of_mem_take he), rfl⟩))
      have h2 : e.d.length ≤ 4096 := this.2.2.2.2
      omega
    have := refEntries_any (some ⟨g, off + k * 4, none⟩) (vc - k) ((fs.drop k).take (fs.length - k)) M X hat (Nat.le_trans HM.out hBX.size) (by rw [hll]; omega) hd
    rw [hll] at this
    refine this.mono ?_
    rintro e w' ⟨v, gs, rfl, q1, q2, q3⟩
    have e3 : ((fs.drop k).take (fs.length - k)).map Ent.says = F.drop k := by rw [List.take_of_length_le (by simp), List.map_drop, hF]
    exact ⟨v, gs, rfl, q1.base hX.size, q2.trans e3, by have := congrArg List.length q2; rw [List.length_map, List.length_map, hll] at this; exact this, hX.trans (q3.mono hX.size), q3⟩
  have hbw := h.inn _ h.Sb
  have hc64 : P.c ≤ P.li := h.ok.cl
  have hli : P.li = P.bi + (P.E.length : Int) := rfl
  clear h hE hM hck c1 c2 c3 hcs hcp hF hq b3 hhas
  generalize trA P i t F = rA at *
  generalize trY P i t F = rY at *
  generalize trL P i t c F = rL at *
  have HBD : Hid (i + (fs.length : Int) ≤ 4611686018427387904 ∧ (0 ≤ P.bi ∧ P.bi ≤ 4611686018427387904) ∧ 0 ≤ P.li ∧ P.li ≤ 4611686018427387904 ∧ vc ≤ 9223372036854775807 ∧ ec ≤ 9223372036854775807) := ⟨hsl, ⟨h0.1, h0.2.1⟩, hlim.1, hlim.2, hvm, hem⟩
  have HN0 : Hid (i = P.bi + (n0 : Int) ∧ P.bi ≤ i ∧ i ≤ P.li ∧ P.c ≤ P.li ∧ P.li = P.bi + (P.E.length : Int) ∧ F.length = fs.length ∧ fs.length ≤ vc ∧ P.E.length ≤ ec ∧ P.E.length ≤ 10000) := ⟨hn0, b1, b2, hc64, hli, hlF, hvc, hec, hlen⟩
  have HH0 : Hid (Calls _ _ _ _ _) := H0
  have HNN : Hid (N ≤ w.heap.size) := hN
  have HSH : Hid ((ea = none ∧ ec = 0 ∧ P.E.length = 0) ∨ ∃ g, ea = some ⟨g, 0, none⟩) := hsh
  clear hsh hsl h0 hlim hvm hem hn0 hi0 b1 b2 hc64 hli hlF hvc hec hlen H0
  go_enter Try.func23, Try.ntmps23
  go_wp2_with fail
  refine HH0.out.mono ?_
  rintro r w1 ⟨rfl, hB1⟩
  have HB1 : Hid (Below w.heap.size w w1) := hB1
  clear hB1 HH0
  go_wp2_with fail
  go_loopw [13] (fun iv wr => ∃ (k : Nat), iv = .int .i64 (k : Int) ∧ k ≤ fs.length ∧ k + knN P (F.drop k) = q ∧ Below w.heap.size w wr) (fun iv _ => fs.length - (intOf iv).toNat)
  case atStart => exact ⟨0, rfl, Nat.zero_le _, by have := HQ.out; omega, HB1.out⟩
  case round =>
    obtain ⟨k, rfl, hk, hR, hB⟩ := hrel
    have HRK : Hid (k + knN P (F.drop k) = q) := hR
    have HB : Hid (Below w.heap.size w wr) := hB
    clear hR hB HB1 HQ
    by_cases hlt : k < fs.length
    · obtain ⟨g, off, hva, hgM, he⟩ := HE.out.at hlt
      have he' := he.below hgM (HB.out.mono HM.out)
      obtain ⟨x1, x2⟩ := HIX.out k hlt
      have HS2K : Hid (∀ w6, Below w.heap.size w w6 → Src w6 (some ⟨g, off + k * 4, none⟩) (fs.length - k) (vc - k) (F.drop k)) := fun w6 h6 => HS2.out k hlt w6 h6 g off hva
      subst hva
      have hgw : g < wr.heap.size := by have := HB.out.size; have := HM.out; omega
      have hknn : knN P (F.drop k) = if P.has (fs.getD k nilEnt).i (fs.getD k nilEnt).t = true then knN P (F.drop (k + 1)) + 1 else 0 := by rw [x2]; rfl
      generalize fs.getD k nilEnt = e at *
      obtain ⟨et, ei, ek, eaa, ecc, ed⟩ := e
      obtain ⟨z0, z1, -, -, -⟩ := he'
      simp only at z0 z1 x1 hknn
      subst x1
      have i0 : (0 : Int) ≤ (k : Int) := by omega
      have i1 : (k : Int) < (fs.length : Int) := by omega
      have HK0 := HHAS.out wr.drew (i + 1 + (k : Int)) et HB.out.drew
      clear he x2
      cases hh : P.has (i + 1 + (k : Int)) et with
      | true =>
        have HR2 : Hid (k + 1 + knN P (F.drop (k + 1)) = q) := by show _ = _; rw [← HRK.out, hknn, if_pos hh]; omega
        rw [hh] at HK0
        have HKH : Hid (Calls _ _ _ _ _) := HK0
        clear hh hknn HK0 HRK HA HN HP HS1 HS2 HS2K HCM
        as_aux_lemma =>
          have HC5 : Hid (∀ w5, Below wr.drew.heap.size wr.drew w5 → (w5.cell? ⟨g, off + k * 4, none⟩ = some (.int .i64 et) ∧ w5.cell? ⟨g, off + k * 4 + 1, none⟩ = some (.int .i64 (i + 1 + (k : Int))))) := fun w5 h5 => ⟨(h5.cell (p := ⟨g, off + k * 4, none⟩) hgw).trans z0, (h5.cell (p := ⟨g, off + k * 4 + 1, none⟩) hgw).trans z1⟩
          go_wp2_with fail
          go_region_held3 (fun w' => w'.cell? ⟨g, off + k * 4, none⟩ = some (.int .i64 et) ∧ w'.cell? ⟨g, off + k * 4 + 1, none⟩ = some (.int .i64 (i + 1 + (k : Int)))) (go_keep)
            (first
              | (go_at_call 60; refine HKH.out.mono ?_; rintro r w5 ⟨rfl, hB5⟩; have HB5 : Hid (Below w.heap.size w w5) := HB.out.drew.trans (hB5.mono HB.out.drew.size); obtain ⟨y0, y1⟩ := HC5.out w5 hB5; clear hB5)
              | fail)
          go_wp2
          exact ⟨⟨k + 1, by go_num, by omega, HR2.out, HB5.out⟩, by simp [intOf]; omega⟩
      | false =>
        have hkq : k = q := by have := HRK.out; rw [hknn, if_neg (by rw [hh]; simp)] at this; omega
        subst hkq
        rw [hh] at HK0
        have HKH : Hid (Calls _ _ _ _ _) := HK0
        clear hh hknn HK0 HRK HA HS2 hk
        obtain ⟨n1, n2, n3, n4, n5, n6, n7, n8, n9⟩ := HN0.out
        obtain ⟨d1, d2, d3, d4, d5, d6⟩ := HBD.out
        obtain ⟨K, hK⟩ : ∃ K : Nat, n0 + k = K := ⟨_, rfl⟩
        have f1 : IntKind.i64.wrap (i + 1 + (k : Int) - 1) = i + (k : Int) := by rw [IntKind.wrap_i64]; omega
        have f2 : IntKind.i64.wrap (i + (k : Int) - P.bi) = (K : Int) := by rw [IntKind.wrap_i64]; omega
        have f3 : IntKind.i64.wrap ((K : Int) + (fs.length : Int)) = (K : Int) + (fs.length : Int) := by rw [IntKind.wrap_i64]; omega
        have f4 : IntKind.i64.wrap ((K : Int) + (fs.length : Int) - (k : Int)) = (K : Int) + (fs.length : Int) - (k : Int) := by rw [IntKind.wrap_i64]; omega
        have HIK : Hid (i + (k : Int) = P.bi + (K : Int)) := by show _ = _; omega
        have HC5 : Hid (∀ w5, Below wr.drew.heap.size wr.drew w5 → (w5.cell? ⟨g, off + k * 4, none⟩ = some (.int .i64 et) ∧ w5.cell? ⟨g, off + k * 4 + 1, none⟩ = some (.int .i64 (i + 1 + (k : Int))))) := fun w5 h5 => ⟨(h5.cell (p := ⟨g, off + k * 4, none⟩) hgw).trans z0, (h5.cell (p := ⟨g, off + k * 4 + 1, none⟩) hgw).trans z1⟩
        rw [hK] at HN HP
        have hpuE : puY P K (fs.length - k) = (decide (P.c ≤ P.bi + (K : Int)) && decide (K + (fs.length - k) ≤ 10000)) := rfl
        cases hpu : puY P K (fs.length - k) with
        | false =>
          obtain ⟨a1, a2, a3, a4⟩ := HN.out hlt hpu
          have HTA : Hid (rA = 0 ∧ rY = false ∧ rL = P) := ⟨a1, a2, a3⟩
          have HTB : Hid (∀ w1, Below w.heap.size w w1 → RTh N S w w1 b P) := a4
          rw [hpu] at hpuE
          have hor : ¬ (P.c ≤ P.bi + (K : Int)) ∨ ¬ (K + (fs.length - k) ≤ 10000) := by
            by_cases q1 : P.c ≤ P.bi + (K : Int)
            · right; intro q2; rw [decide_eq_true q1, decide_eq_true q2] at hpuE; cases hpuE
            · exact .inl q1
          by_cases hc : i + 1 + (k : Int) ≤ P.c
          · clear hpu hpuE hor n1 n2 n3 n4 n5 n6 n7 n8 n9 d1 d2 d3 d4 d5 d6 HN HP HS1 HS2K a1 a2 a3 a4 hK HIX
            as_aux_lemma =>
              go_wp2_with fail
              go_region_held3 (fun w' => w'.cell? ⟨g, off + k * 4, none⟩ = some (.int .i64 et) ∧ w'.cell? ⟨g, off + k * 4 + 1, none⟩ = some (.int .i64 (i + 1 + (k : Int)))) (go_keep)
                (first
                  | (go_at_call 60; refine HKH.out.mono ?_; rintro r w5 ⟨rfl, hB5⟩; have HB5 : Hid (Below w.heap.size w w5) := HB.out.drew.trans (hB5.mono HB.out.drew.size); obtain ⟨y0, y1⟩ := HC5.out w5 hB5; obtain ⟨⟨k0, -, k2, k3, k4, k5, -, -⟩, kf, kb⟩ := HCS.out w5 HB5.out; clear hB5)
                  | fail)
              go_wp2
              go_returns
              obtain ⟨t1, t2, t3⟩ := HTA.out
              exact ⟨by rw [t1, t2]; rfl, by rw [t3]; exact HTB.out w5 HB5.out⟩
          · have hg : (10000 : Int) < (K : Int) + (fs.length : Int) - (k : Int) := by omega
            clear hpu hpuE hor n1 n2 n3 n4 n5 n6 n7 n8 n9 d1 d2 d3 d4 d5 d6 HN HP HS1 HS2K a1 a2 a3 a4 hK HIX
            as_aux_lemma =>
              go_wp2_with fail
              go_region_held3 (fun w' => w'.cell? ⟨g, off + k * 4, none⟩ = some (.int .i64 et) ∧ w'.cell? ⟨g, off + k * 4 + 1, none⟩ = some (.int .i64 (i + 1 + (k : Int)))) (go_keep)
                (first
                  | (go_at_call 60; refine HKH.out.mono ?_; rintro r w5 ⟨rfl, hB5⟩; have HB5 : Hid (Below w.heap.size w w5) := HB.out.drew.trans (hB5.mono HB.out.drew.size); obtain ⟨y0, y1⟩ := HC5.out w5 hB5; obtain ⟨⟨k0, -, k2, k3, k4, k5, -, -⟩, kf, kb⟩ := HCS.out w5 HB5.out; clear hB5)
                  | fail)
              go_wp2
              go_returns
              obtain ⟨t1, t2, t3⟩ := HTA.out
              exact ⟨by rw [t1, t2]; rfl, by rw [t3]; exact HTB.out w5 HB5.out⟩
        | true =>
          obtain ⟨a1, a2, a3, a4, a5⟩ := HP.out hlt hpu
          have HTA : Hid (rA = i + (fs.length : Int) ∧ rY = true ∧ ∀ x, x = min c (i + (fs.length : Int)) → rL = coP (puP P K (F.drop k)) x) := ⟨a1, a2, a4⟩
          have HTB : Hid (∀ (w9 : World) (v' : Value) (gs : List Ent) (x y : Int), Below w.heap.size w w9 → EntsOw w.heap.size w9 v' gs → gs.map Ent.says = P.E.take K ++ F.drop k → x = min P.h (P.bi + (K : Int)) → y = min P.s (P.bi + (K : Int)) → RTh N S w (((w9.setCell ⟨b, 2, none⟩ v').setCell ⟨b, 3, none⟩ (.int .i64 x)).setCell ⟨b, 4, none⟩ (.int .i64 y)) b (puP P K (F.drop k))) := a5
          rw [hpu] at hpuE
          have hpc := hpuE.symm
          simp only [Bool.and_eq_true, decide_eq_true_eq] at hpc
          have hc : ¬ i + 1 + (k : Int) ≤ P.c := by omega
          have hg : ¬ (10000 : Int) < (K : Int) + (fs.length : Int) - (k : Int) := by omega
          have HS1K : Hid (∀ w6, Below w.heap.size w w6 → Src w6 ea K ec (P.E.take K)) := fun w6 h6 => HS1.out K a3 w6 h6
          have hK1 : (K : Int) ≤ (P.E.length : Int) := by omega
          have hK0 : (0 : Int) ≤ (K : Int) := by omega
          have hKc : (K : Int) ≤ (ec : Int) := by omega
          have hkv : (k : Int) ≤ (fs.length : Int) := by omega
          have hvk : ¬ vc = k := by omega
          have HLN : Hid (K ≤ 10000 ∧ fs.length - k ≤ 10000) := ⟨by omega, by omega⟩
          clear hpu hpuE hpc n1 n2 n3 n4 n5 n6 n7 n8 n9 d1 d2 d3 d4 d5 d6 HN HP HS1 a1 a2 a3 a4 a5 hK HIX
          rcases HSH.out with ⟨e1, e2, e3⟩ | ⟨ge, e1⟩
          · subst e1; subst e2
            rw [e3] at HCS hK1
            obtain rfl : K = 0 := by omega
            clear e3 hK1 hKc
            as_aux_lemma =>
              go_wp2_with fail
              go_region_held3 (fun w' => w'.cell? ⟨g, off + k * 4, none⟩ = some (.int .i64 et) ∧ w'.cell? ⟨g, off + k * 4 + 1, none⟩ = some (.int .i64 (i + 1 + (k : Int)))) (go_keep)
                (first
                  | (go_at_call 60; refine HKH.out.mono ?_; rintro r w5 ⟨rfl, hB5⟩; have HB5 : Hid (Below w.heap.size w w5) := HB.out.drew.trans (hB5.mono HB.out.drew.size); obtain ⟨y0, y1⟩ := HC5.out w5 hB5; obtain ⟨⟨k0, -, k2, k3, k4, k5, -, -⟩, kf, kb⟩ := HCS.out w5 HB5.out; clear hB5)
                  | fail)
              have S1 : Hid (Src w5 none 0 0 (P.E.take 0)) := HS1K.out w5 HB5.out
              have S2 : Hid (Src w5 (some ⟨g, off + k * 4, none⟩) (fs.length - k) (vc - k) (F.drop k)) := HS2K.out w5 HB5.out
              have hB0 : Below w5.heap.size w5 w5.drew := (Below.refl _ w5).drew
              have HCB : Hid (∀ X, Below w5.heap.size w5 X → ((X.cell? ⟨b, 0, none⟩ = some (.int .i64 P.bi) ∧ X.cell? ⟨b, 2, none⟩ = some (.slice none 0 0)) ∧ b < X.heap.size)) := fun X hX => by
                obtain ⟨⟨c0, -, c2, -, -, -, -, -⟩, -, cb⟩ := HCS.out X (HB5.out.trans (hX.mono HB5.out.size))
                exact ⟨⟨c0, c2⟩, cb⟩
              have HG : Hid (∀ (W w9 : World) (vE : Value) (gE gF : List Ent) (vF v' : Value), Below w5.heap.size w5 W → EntsOw w5.heap.size W vE gE → EntsOw w5.heap.size W vF gF → w9.ownsRow w.heap.size 40 4 v' (gE.length + gF.length) (entCells gE ++ entCells gF) → W.grownBy w9 vE.ownBlock → (Below w.heap.size w w9 ∧ EntsOw w.heap.size w9 v' (gE ++ gF)) ∧ (w9.cell? ⟨b, 2, none⟩ = some (.slice none 0 0) ∧ w9.cell? ⟨b, 3, none⟩ = some (.int .i64 P.h) ∧ w9.cell? ⟨b, 4, none⟩ = some (.int .i64 P.s)) ∧ (∀ o, w9.frozen? ⟨b, o, none⟩ = false) ∧ b < w9.heap.size) := fun W w9 vE gE gF vF v' hBW hOE hOF q1 q2 => by
                have hB9 : Below w.heap.size w w9 := (HB5.out.trans (hBW.mono HB5.out.size)).grown q2 (Nat.le_trans HB5.out.size hBW.size) (fun i hi => Nat.le_trans HB5.out.size (hOE.lt hi).1)
                obtain ⟨⟨-, -, c2, c3, c4, -, -, -⟩, cf, cb⟩ := HCS.out w9 hB9
                exact ⟨⟨hB9, (hOE.base HB5.out.size).app (fun e he => (hOF.base HB5.out.size).dat e he) q1 q2⟩, ⟨c2, c3, c4⟩, cf, cb⟩
              have HNW : Hid (∀ X, Below w5.heap.size w5 X → w.heap.size ≤ X.heap.size) := fun X hX => Nat.le_trans HB5.out.size hX.size
              have HB5Z : Hid (w.heap.size ≤ w5.heap.size) := HB5.out.size
              have E1 : Hid (∀ a n c X, a = none → n = 0 → c = 0 → Below w5.heap.size w5 X → Calls Try.prog 16 #[.slice a n c] X fun e w' => ∃ v gs, e = .returned v ∧ EntsOw w5.heap.size w' v gs ∧ gs.map Ent.says = P.E.take 0 ∧ gs.length = n ∧ Below w5.heap.size w5 w' ∧ Below X.heap.size X w') := fun a n c X h1 h2 h3 hX => by subst h1; subst h2; subst h3; exact S1.out X hX
              have E2 : Hid (∀ a n c X, a = some ⟨g, off + k * 4, none⟩ → n = fs.length - k → c = vc - k → Below w5.heap.size w5 X → Calls Try.prog 16 #[.slice a n c] X fun e w' => ∃ v gs, e = .returned v ∧ EntsOw w5.heap.size w' v gs ∧ gs.map Ent.says = F.drop k ∧ gs.length = n ∧ Below w5.heap.size w5 w' ∧ Below X.heap.size X w') := fun a n c X h1 h2 h3 hX => by subst h1; subst h2; subst h3; exact S2.out X hX
              have HG0 : Hid (∀ w9, Below w.heap.size w w9 → w9.cell? ⟨b, 0, none⟩ = some (.int .i64 P.bi)) := fun w9 h9 => by
                obtain ⟨⟨c0, -, -, -, -, -, -, -⟩, -, -⟩ := HCS.out w9 h9
                exact c0
              clear HS1K HS2K HKH HHAS HC5 HE HCS
              go_wp2_with fail
              obtain ⟨⟨z0, z2⟩, zb⟩ := HCB.out w5.drew hB0
              refine wp_region_held_drew (S := fun w' => w'.cell? ⟨b, 0, none⟩ = some (.int .i64 P.bi)) (by kernel_rfl) z0 (fun hHeld => ?_)
              refine wpAnyH_take (i := 0) (oi := { dst := some 72, op := Op.move (Operand.tmp 0), type := 29, pos := "log.go:133", after := #[], guard := none }) (v := ?v0a) rfl (by kernel_rfl) (by kernel_rfl) (by kernel_rfl) (fun _ _ _ h => h) (Or.inl ⟨by rfl, ?h0a⟩) hHeld ?r0a
              case h0a => intro w hSw; (try dsimp only at hSw); go_simp; try with_reducible rfl
              try simp only [Act.put, List.setIfInBounds_toArray, List.set_cons_zero, List.set_cons_succ]
              refine wpAnyH_take (i := 1) (oi := { dst := some 73, op := Op.move (Operand.tmp 0), type := 29, pos := "log.go:133", after := #[], guard := none }) (v := ?v1a) rfl (by kernel_rfl) (by kernel_rfl) (by kernel_rfl) (fun _ _ _ h => h) (Or.inl ⟨by rfl, ?h1a⟩) hHeld ?r1a
              case h1a => intro w hSw; (try dsimp only at hSw); go_simp; try with_reducible rfl
              try simp only [Act.put, List.setIfInBounds_toArray, List.set_cons_zero, List.set_cons_succ]
              refine wpAnyH_take (i := 2) (oi := { dst := some 74, op := Op.nilCheck (Operand.tmp 73), type := 0, pos := "log.go:133", after := #[{ on := 1, ground := Ground.data }], guard := none }) (v := ?v2a) rfl (by kernel_rfl) (by kernel_rfl) (by kernel_rfl) (fun _ _ _ h => h) (Or.inl ⟨by rfl, ?h2a⟩) hHeld ?r2a
              case h2a => intro w hSw; (try dsimp only at hSw); go_simp; try with_reducible rfl
              try simp only [Act.put, List.setIfInBounds_toArray, List.set_cons_zero, List.set_cons_succ]
              refine wpAnyH_take (i := 3) (oi := { dst := some 75, op := Op.fieldAddr 82 (Operand.tmp 74) 2, type := 0, pos := "log.go:133", after := #[{ on := 2, ground := Ground.data }], guard := none }) (v := ?v3a) rfl (by kernel_rfl) (by kernel_rfl) (by kernel_rfl) (fun _ _ _ h => h) (Or.inl ⟨by rfl, ?h3a⟩) hHeld ?r3a
              case h3a => intro w hSw; (try dsimp only at hSw); go_simp; try with_reducible rfl
              try simp only [Act.put, List.setIfInBounds_toArray, List.set_cons_zero, List.set_cons_succ]
              refine wpAnyH_take (i := 5) (oi := { dst := some 77, op := Op.move (Operand.tmp 14), type := 3, pos := "log.go:133", after := #[], guard := none }) (v := ?v5a) rfl (by kernel_rfl) (by kernel_rfl) (by kernel_rfl) (fun _ _ _ h => h) (Or.inl ⟨by rfl, ?h5a⟩) hHeld ?r5a
              case h5a => intro w hSw; (try dsimp only at hSw); go_simp; try with_reducible rfl
              try simp only [Act.put, List.setIfInBounds_toArray, List.set_cons_zero, List.set_cons_succ]
              refine wpAnyH_take (i := 6) (oi := { dst := some 78, op := Op.binOp BinOp.sub 3 (Operand.tmp 77) (Operand.const (Value.int IntKind.i64 1)) 3, type := 3, pos := "log.go:133", after := #[{ on := 5, ground := Ground.data }], guard := none }) (v := ?v6a) rfl (by kernel_rfl) (by kernel_rfl) (by kernel_rfl) (fun _ _ _ h => h) (Or.inl ⟨by rfl, ?h6a⟩) hHeld ?r6a
              case h6a => intro w hSw; (try dsimp only at hSw); go_simp; try with_reducible rfl
              try simp only [Act.put, List.setIfInBounds_toArray, List.set_cons_zero, List.set_cons_succ]
              refine wpAnyH_take (i := 7) (oi := { dst := some 79, op := Op.move (Operand.tmp 0), type := 29, pos := "log.go:133", after := #[], guard := none }) (v := ?v7a) rfl (by kernel_rfl) (by kernel_rfl) (by kernel_rfl) (fun _ _ _ h => h) (Or.inl ⟨by rfl, ?h7a⟩) hHeld ?r7a
              case h7a => intro w hSw; (try dsimp only at hSw); go_simp; try with_reducible rfl
              try simp only [Act.put, List.setIfInBounds_toArray, List.set_cons_zero, List.set_cons_succ]
              refine wpAnyH_take (i := 8) (oi := { dst := some 80, op := Op.nilCheck (Operand.tmp 79), type := 0, pos := "log.go:133", after := #[{ on := 7, ground := Ground.data }], guard := none }) (v := ?v8a) rfl (by kernel_rfl) (by kernel_rfl) (by kernel_rfl) (fun _ _ _ h => h) (Or.inl ⟨by rfl, ?h8a⟩) hHeld ?r8a
              case h8a => intro w hSw; (try dsimp only at hSw); go_simp; try with_reducible rfl
              try simp only [Act.put, List.setIfInBounds_toArray, List.set_cons_zero, List.set_cons_succ]
              refine wpAnyH_take (i := 9) (oi := { dst := some 81, op := Op.fieldAddr 82 (Operand.tmp 80) 0, type := 0, pos := "log.go:133", after := #[{ on := 8, ground := Ground.data }], guard := none }) (v := ?v9a) rfl (by kernel_rfl) (by kernel_rfl) (by kernel_rfl) (fun _ _ _ h => h) (Or.inl ⟨by rfl, ?h9a⟩) hHeld ?r9a
              case h9a => intro w hSw; (try dsimp only at hSw); go_simp; try with_reducible rfl
              try simp only [Act.put, List.setIfInBounds_toArray, List.set_cons_zero, List.set_cons_succ]
              refine wpAnyH_take (i := 10) (oi := { dst := some 82, op := Op.load 3 (Operand.tmp 81), type := 3, pos := "log.go:133", after := #[{ on := 9, ground := Ground.data }], guard := none }) (v := ?v10a) rfl (by kernel_rfl) (by kernel_rfl) (by kernel_rfl) (fun _ _ _ h => h) (Or.inl ⟨by rfl, ?h10a⟩) hHeld ?r10a
              case h10a => intro w hSw; (try dsimp only at hSw); go_simp; try with_reducible rfl
              try simp only [Act.put, List.setIfInBounds_toArray, List.set_cons_zero, List.set_cons_succ]
              refine wpAnyH_take (i := 11) (oi := { dst := some 83, op := Op.binOp BinOp.sub 3 (Operand.tmp 78) (Operand.tmp 82) 3, type := 3, pos := "log.go:133", after := #[{ on := 6, ground := Ground.data }, { on := 10, ground := Ground.data }], guard := none }) (v := ?v11a) rfl (by kernel_rfl) (by kernel_rfl) (by kernel_rfl) (fun _ _ _ h => h) (Or.inl ⟨by rfl, ?h11a⟩) hHeld ?r11a
              case h11a => intro w hSw; (try dsimp only at hSw); go_simp; try with_reducible rfl
              try simp only [Act.put, List.setIfInBounds_toArray, List.set_cons_zero, List.set_cons_succ]
              refine wpAnyH_take (i := 14) (oi := { dst := some 86, op := Op.move (Operand.tmp 4), type := 34, pos := "log.go:133", after := #[], guard := none }) (v := ?v14a) rfl (by kernel_rfl) (by kernel_rfl) (by kernel_rfl) (fun _ _ _ h => h) (Or.inl ⟨by rfl, ?h14a⟩) hHeld ?r14a
              case h14a => intro w hSw; (try dsimp only at hSw); go_simp; try with_reducible rfl
              try simp only [Act.put, List.setIfInBounds_toArray, List.set_cons_zero, List.set_cons_succ]
              refine wpAnyH_take (i := 15) (oi := { dst := some 87, op := Op.move (Operand.tmp 13), type := 3, pos := "log.go:133", after := #[], guard := none }) (v := ?v15a) rfl (by kernel_rfl) (by kernel_rfl) (by kernel_rfl) (fun _ _ _ h => h) (Or.inl ⟨by rfl, ?h15a⟩) hHeld ?r15a
              case h15a => intro w hSw; (try dsimp only at hSw); go_simp; try with_reducible rfl
              try simp only [Act.put, List.setIfInBounds_toArray, List.set_cons_zero, List.set_cons_succ]
              refine wpAnyH_take (i := 16) (oi := { dst := some 88, op := Op.slice 34 (Operand.tmp 86) (some (Operand.tmp 87)) none none, type := 34, pos := "log.go:133", after := #[{ on := 14, ground := Ground.data }, { on := 15, ground := Ground.data }], guard := none }) (v := ?v16a) rfl (by kernel_rfl) (by kernel_rfl) (by kernel_rfl) (fun _ _ _ h => h) (Or.inl ⟨by rfl, ?h16a⟩) hHeld ?r16a
              case h16a => intro w hSw; (try dsimp only at hSw); go_simp; try with_reducible rfl
              try simp only [Act.put, List.setIfInBounds_toArray, List.set_cons_zero, List.set_cons_succ]
              refine wpAnyH_ready (rs := [4]) (by kernel_rfl) (by simp) ?_
              refine AllReadyH.cons (o := { dst := some 76, op := Op.load 34 (Operand.tmp 75), type := 34, pos := "log.go:133", after := #[{ on := 3, ground := Ground.data }], guard := none }) rfl (fun KK hK => ?_) ?_
              · go_simp
                refine hK.out _ _ z0 (fun hHeld => ?_)
                clear hK
                try simp only [Act.put, List.setIfInBounds_toArray, List.set_cons_zero, List.set_cons_succ]
                refine wpAnyH_take (i := 12) (oi := { dst := some 84, op := Op.slice 34 (Operand.tmp 76) none (some (Operand.tmp 83)) none, type := 34, pos := "log.go:133", after := #[{ on := 4, ground := Ground.data }, { on := 11, ground := Ground.data }], guard := none }) (v := ?v12a) rfl (by kernel_rfl) (by kernel_rfl) (by kernel_rfl) (fun _ _ _ h => h) (Or.inl ⟨by rfl, ?h12a⟩) hHeld ?r12a
                case h12a => intro w hSw; (try dsimp only at hSw); go_simp; try with_reducible rfl
                try simp only [Act.put, List.setIfInBounds_toArray, List.set_cons_zero, List.set_cons_succ]
                refine wpAnyH_ready (rs := [13]) (by kernel_rfl) (by simp) ?_
                refine AllReadyH.cons (o := { dst := some 85, op := Op.call { callee := Callee.value (Operand.func 16), args := #[Operand.tmp 84], argTypes := #[34] }, type := 34, pos := "log.go:133", after := #[{ on := 12, ground := Ground.data }], guard := none }) rfl (fun KK hK => ?_) ?_
                · go_simp
                  go_wp2_with (go_at_call 16; refine Calls.mono (E1.out _ _ _ _ ?_ ?_ ?_ ?_) ?_; exact rfl; exact rfl; exact rfl; exact hB0; rintro r wE ⟨vE, gE, rfl, hOE, hsyE, hlE, hBE, hBEX⟩; obtain ⟨⟨e0, e2⟩, eb⟩ := HCB.out wE hBE; have HOE : Hid (EntsOw w5.heap.size wE vE gE) := hOE; have HSYE : Hid (gE.map Ent.says = _) := hsyE; have HBE : Hid (Below w5.heap.size w5 wE) := hBE; have HBEX : Hid (Below _ _ wE) := hBEX; have hlenE : gE.length ≤ 10000 := (by have := HLN.out; omega); clear hOE hsyE hlE hBE hBEX)
                  refine hK.out _ _ e0 (fun hHeld => ?_)
                  clear hK
                  try simp only [Act.put, List.setIfInBounds_toArray, List.set_cons_zero, List.set_cons_succ]
                  refine wpAnyH_ready (rs := [17]) (by kernel_rfl) (by simp) ?_
                  refine AllReadyH.cons (o := { dst := some 89, op := Op.call { callee := Callee.value (Operand.func 16), args := #[Operand.tmp 88], argTypes := #[34] }, type := 34, pos := "log.go:133", after := #[{ on := 16, ground := Ground.data }, { on := 13, ground := Ground.chain }], guard := none }) rfl (fun KK hK => ?_) ?_
                  · go_simp
                    go_wp2_with (go_at_call 16; refine Calls.mono (E2.out _ _ _ _ ?_ ?_ ?_ ?_) ?_; exact rfl; exact rfl; exact rfl; exact HBE.out; rintro r wF ⟨vF, gF, rfl, hOF, hsyF, hlF, hBF, hBFX⟩; obtain ⟨⟨f0, f2⟩, fb⟩ := HCB.out wF hBF; obtain ⟨aF, cF, rfl, -, -⟩ := hOF.shape; have HOF : Hid (EntsOw w5.heap.size wF (.slice aF gF.length cF) gF) := hOF; have HSYF : Hid (gF.map Ent.says = _) := hsyF; have HBF : Hid (Below w5.heap.size w5 wF) := hBF; have HBFX : Hid (Below _ _ wF) := hBFX; have hlenF : gF.length ≤ 10000 := (by have := HLN.out; omega); have hlen9 : gE.length + gF.length ≤ 1000000000 := (by omega); clear hOF hsyF hlF hBF hBFX)
                    refine hK.out _ _ f0 (fun hHeld => ?_)
                    clear hK
                    try simp only [Act.put, List.setIfInBounds_toArray, List.set_cons_zero, List.set_cons_succ]
                    refine wpAnyH_ready (rs := [18]) (by kernel_rfl) (by simp) ?_
                    refine AllReadyH.cons (o := { dst := some 90, op := Op.call { callee := Callee.builtin Builtin.append, args := #[Operand.tmp 85, Operand.tmp 89], argTypes := #[34, 34] }, type := 34, pos := "log.go:133", after := #[{ on := 13, ground := Ground.data }, { on := 17, ground := Ground.data }, { on := 17, ground := Ground.chain }], guard := none }) rfl (fun KK hK => ?_) ?_
                    · refine step_append_ents rfl (.tmp 85) (.tmp 89) rfl w.heap.size wF.heap.size vE aF cF gE gF (by simp [Act.eval]) ((HOE.out.below HBFX.out).base HB5Z.out).row (by simp [Act.eval]) (HOF.out.at) hlen9 (HNW.out _ HBF.out) ?_
                      intro v' w9 q1 q2 q3
                      obtain ⟨⟨g1, g2⟩, ⟨g3, g4, g5⟩, g6, g7⟩ := HG.out wF w9 vE gE gF _ v' HBF.out (HOE.out.below HBFX.out) HOF.out q1 q2
                      have g0 := HG0.out w9 g1
                      have G1 : Hid (Below _ _ _) := g1
                      have G2 : Hid (EntsOw _ _ _ _) := g2
                      obtain ⟨sa, sc, hsh⟩ := row_shape q1
                      clear q1 q2 q3 g1 g2
                      subst hsh
                      refine hK.out _ _ g0 (fun hHeld => ?_)
                      clear hK
                      try simp only [Act.put, List.setIfInBounds_toArray, List.set_cons_zero, List.set_cons_succ]
                      refine wpAnyH_take (i := 19) (oi := { dst := some 91, op := Op.nilCheck (Operand.tmp 72), type := 0, pos := "log.go:133", after := #[{ on := 0, ground := Ground.data }, { on := 0, ground := Ground.phase }, { on := 1, ground := Ground.phase }, { on := 2, ground := Ground.phase }, { on := 3, ground := Ground.phase }, { on := 4, ground := Ground.phase }, { on := 5, ground := Ground.phase }, { on := 6, ground := Ground.phase }, { on := 7, ground := Ground.phase }, { on := 8, ground := Ground.phase }, { on := 9, ground := Ground.phase }, { on := 10, ground := Ground.phase }, { on := 11, ground := Ground.phase }, { on := 12, ground := Ground.phase }, { on := 13, ground := Ground.phase }, { on := 14, ground := Ground.phase }, { on := 15, ground := Ground.phase }, { on := 16, ground := Ground.phase }, { on := 17, ground := Ground.phase }, { on := 18, ground := Ground.phase }], guard := none }) (v := ?v19a) rfl (by kernel_rfl) (by kernel_rfl) (by kernel_rfl) (fun _ _ _ h => h) (Or.inl ⟨by rfl, ?h19a⟩) hHeld ?r19a
                      case h19a => intro w hSw; (try dsimp only at hSw); go_simp; try with_reducible rfl
                      try simp only [Act.put, List.setIfInBounds_toArray, List.set_cons_zero, List.set_cons_succ]
                      refine wpAnyH_take (i := 20) (oi := { dst := some 92, op := Op.fieldAddr 82 (Operand.tmp 91) 2, type := 0, pos := "log.go:133", after := #[{ on := 19, ground := Ground.data }, { on := 0, ground := Ground.phase }, { on := 1, ground := Ground.phase }, { on := 2, ground := Ground.phase }, { on := 3, ground := Ground.phase }, { on := 4, ground := Ground.phase }, { on := 5, ground := Ground.phase }, { on := 6, ground := Ground.phase }, { on := 7, ground := Ground.phase }, { on := 8, ground := Ground.phase }, { on := 9, ground := Ground.phase }, { on := 10, ground := Ground.phase }, { on := 11, ground := Ground.phase }, { on := 12, ground := Ground.phase }, { on := 13, ground := Ground.phase }, { on := 14, ground := Ground.phase }, { on := 15, ground := Ground.phase }, { on := 16, ground := Ground.phase }, { on := 17, ground := Ground.phase }, { on := 18, ground := Ground.phase }], guard := none }) (v := ?v20a) rfl (by kernel_rfl) (by kernel_rfl) (by kernel_rfl) (fun _ _ _ h => h) (Or.inl ⟨by rfl, ?h20a⟩) hHeld ?r20a
                      case h20a => intro w hSw; (try dsimp only at hSw); go_simp; try with_reducible rfl
                      try simp only [Act.put, List.setIfInBounds_toArray, List.set_cons_zero, List.set_cons_succ]
                      refine wpAnyH_ready (rs := [21]) (by kernel_rfl) (by simp) ?_
                      refine AllReadyH.cons (o := { dst := none, op := Op.store 34 (Operand.tmp 92) (Operand.tmp 90), type := 0, pos := "log.go:133", after := #[{ on := 20, ground := Ground.data }, { on := 18, ground := Ground.data }, { on := 18, ground := Ground.chain }, { on := 0, ground := Ground.phase }, { on := 1, ground := Ground.phase }, { on := 2, ground := Ground.phase }, { on := 3, ground := Ground.phase }, { on := 4, ground := Ground.phase }, { on := 5, ground := Ground.phase }, { on := 6, ground := Ground.phase }, { on := 7, ground := Ground.phase }, { on := 8, ground := Ground.phase }, { on := 9, ground := Ground.phase }, { on := 10, ground := Ground.phase }, { on := 11, ground := Ground.phase }, { on := 12, ground := Ground.phase }, { on := 13, ground := Ground.phase }, { on := 14, ground := Ground.phase }, { on := 15, ground := Ground.phase }, { on := 16, ground := Ground.phase }, { on := 17, ground := Ground.phase }, { on := 18, ground := Ground.phase }], guard := none }) rfl (fun KK hK => ?_) ?_
                      · go_simp
                        refine hK.out _ _ ?hsa (fun hHeld => ?_)
                        case hsa => exact (World.cell?_setCell_other _ ⟨b, 2, none⟩ ⟨b, 0, none⟩ _ (by simp)).trans g0
                        clear hK
                        refine wpAnyH_done (by kernel_rfl) ?_ _
                        go_wp2_with fail
                        all_goals
                          refine Calls.mono (HCM.out _ (puP P 0 (F.drop k)) _ (HTB.out w9 _ (gE ++ gF) _ _ G1.out G2.out (by rw [List.map_append, HSYE.out, HSYF.out]) (by have := HIK.out; omega) (by have := HIK.out; omega))) ?_
                          rintro r w6 ⟨⟨gb, rfl⟩, hT6⟩
                          have HT6 : Hid (RTh _ _ _ w6 _ _) := hT6
                          clear hT6
                          go_wp2
                          go_returns
                          obtain ⟨t1, t2, t3⟩ := HTA.out
                          exact ⟨by rw [t1, t2]; rfl, by first | (rw [t3 (i + (fs.length : Int)) (by omega)]; exact HT6.out) | (rw [t3 c (by omega)]; exact HT6.out)⟩
                      exact AllReadyH.nil
                    exact AllReadyH.nil
                  exact AllReadyH.nil
                exact AllReadyH.nil
              exact AllReadyH.nil
          · subst e1
            as_aux_lemma =>
              go_wp2_with fail
              go_region_held3 (fun w' => w'.cell? ⟨g, off + k * 4, none⟩ = some (.int .i64 et) ∧ w'.cell? ⟨g, off + k * 4 + 1, none⟩ = some (.int .i64 (i + 1 + (k : Int)))) (go_keep)
                (first
                  | (go_at_call 60; refine HKH.out.mono ?_; rintro r w5 ⟨rfl, hB5⟩; have HB5 : Hid (Below w.heap.size w w5) := HB.out.drew.trans (hB5.mono HB.out.drew.size); obtain ⟨y0, y1⟩ := HC5.out w5 hB5; obtain ⟨⟨k0, -, k2, k3, k4, k5, -, -⟩, kf, kb⟩ := HCS.out w5 HB5.out; clear hB5)
                  | fail)
              have S1 : Hid (Src w5 (some ⟨ge, 0, none⟩) K ec (P.E.take K)) := HS1K.out w5 HB5.out
              have S2 : Hid (Src w5 (some ⟨g, off + k * 4, none⟩) (fs.length - k) (vc - k) (F.drop k)) := HS2K.out w5 HB5.out
              have hB0 : Below w5.heap.size w5 w5.drew := (Below.refl _ w5).drew
              have HCB : Hid (∀ X, Below w5.heap.size w5 X → ((X.cell? ⟨b, 0, none⟩ = some (.int .i64 P.bi) ∧ X.cell? ⟨b, 2, none⟩ = some (.slice (some ⟨ge, 0, none⟩) P.E.length ec)) ∧ b < X.heap.size)) := fun X hX => by
                obtain ⟨⟨c0, -, c2, -, -, -, -, -⟩, -, cb⟩ := HCS.out X (HB5.out.trans (hX.mono HB5.out.size))
                exact ⟨⟨c0, c2⟩, cb⟩
              have HG : Hid (∀ (W w9 : World) (vE : Value) (gE gF : List Ent) (vF v' : Value), Below w5.heap.size w5 W → EntsOw w5.heap.size W vE gE → EntsOw w5.heap.size W vF gF → w9.ownsRow w.heap.size 40 4 v' (gE.length + gF.length) (entCells gE ++ entCells gF) → W.grownBy w9 vE.ownBlock → (Below w.heap.size w w9 ∧ EntsOw w.heap.size w9 v' (gE ++ gF)) ∧ (w9.cell? ⟨b, 2, none⟩ = some (.slice (some ⟨ge, 0, none⟩) P.E.length ec) ∧ w9.cell? ⟨b, 3, none⟩ = some (.int .i64 P.h) ∧ w9.cell? ⟨b, 4, none⟩ = some (.int .i64 P.s)) ∧ (∀ o, w9.frozen? ⟨b, o, none⟩ = false) ∧ b < w9.heap.size) := fun W w9 vE gE gF vF v' hBW hOE hOF q1 q2 => by
                have hB9 : Below w.heap.size w w9 := (HB5.out.trans (hBW.mono HB5.out.size)).grown q2 (Nat.le_trans HB5.out.size hBW.size) (fun i hi => Nat.le_trans HB5.out.size (hOE.lt hi).1)
                obtain ⟨⟨-, -, c2, c3, c4, -, -, -⟩, cf, cb⟩ := HCS.out w9 hB9
                exact ⟨⟨hB9, (hOE.base HB5.out.size).app (fun e he => (hOF.base HB5.out.size).dat e he) q1 q2⟩, ⟨c2, c3, c4⟩, cf, cb⟩
              have HNW : Hid (∀ X, Below w5.heap.size w5 X → w.heap.size ≤ X.heap.size) := fun X hX => Nat.le_trans HB5.out.size hX.size
              have HB5Z : Hid (w.heap.size ≤ w5.heap.size) := HB5.out.size
              have E1 : Hid (∀ a n c X, a = some ⟨ge, 0, none⟩ → n = K → c = ec → Below w5.heap.size w5 X → Calls Try.prog 16 #[.slice a n c] X fun e w' => ∃ v gs, e = .returned v ∧ EntsOw w5.heap.size w' v gs ∧ gs.map Ent.says = P.E.take K ∧ gs.length = n ∧ Below w5.heap.size w5 w' ∧ Below X.heap.size X w') := fun a n c X h1 h2 h3 hX => by subst h1; subst h2; subst h3; exact S1.out X hX
              have E2 : Hid (∀ a n c X, a = some ⟨g, off + k * 4, none⟩ → n = fs.length - k → c = vc - k → Below w5.heap.size w5 X → Calls Try.prog 16 #[.slice a n c] X fun e w' => ∃ v gs, e = .returned v ∧ EntsOw w5.heap.size w' v gs ∧ gs.map Ent.says = F.drop k ∧ gs.length = n ∧ Below w5.heap.size w5 w' ∧ Below X.heap.size X w') := fun a n c X h1 h2 h3 hX => by subst h1; subst h2; subst h3; exact S2.out X hX
              have HG0 : Hid (∀ w9, Below w.heap.size w w9 → w9.cell? ⟨b, 0, none⟩ = some (.int .i64 P.bi)) := fun w9 h9 => by
                obtain ⟨⟨c0, -, -, -, -, -, -, -⟩, -, -⟩ := HCS.out w9 h9
                exact c0
              clear HS1K HS2K HKH HHAS HC5 HE HCS
              go_wp2_with fail
              obtain ⟨⟨z0, z2⟩, zb⟩ := HCB.out w5.drew hB0
              refine wp_region_held_drew (S := fun w' => w'.cell? ⟨b, 0, none⟩ = some (.int .i64 P.bi)) (by kernel_rfl) z0 (fun hHeld => ?_)
              refine wpAnyH_take (i := 0) (oi := { dst := some 72, op := Op.move (Operand.tmp 0), type := 29, pos := "log.go:133", after := #[], guard := none }) (v := ?v0b) rfl (by kernel_rfl) (by kernel_rfl) (by kernel_rfl) (fun _ _ _ h => h) (Or.inl ⟨by rfl, ?h0b⟩) hHeld ?r0b
              case h0b => intro w hSw; (try dsimp only at hSw); go_simp; try with_reducible rfl
              try simp only [Act.put, List.setIfInBounds_toArray, List.set_cons_zero, List.set_cons_succ]
              refine wpAnyH_take (i := 1) (oi := { dst := some 73, op := Op.move (Operand.tmp 0), type := 29, pos := "log.go:133", after := #[], guard := none }) (v := ?v1b) rfl (by kernel_rfl) (by kernel_rfl) (by kernel_rfl) (fun _ _ _ h => h) (Or.inl ⟨by rfl, ?h1b⟩) hHeld ?r1b
              case h1b => intro w hSw; (try dsimp only at hSw); go_simp; try with_reducible rfl
              try simp only [Act.put, List.setIfInBounds_toArray, List.set_cons_zero, List.set_cons_succ]
              refine wpAnyH_take (i := 2) (oi := { dst := some 74, op := Op.nilCheck (Operand.tmp 73), type := 0, pos := "log.go:133", after := #[{ on := 1, ground := Ground.data }], guard := none }) (v := ?v2b) rfl (by kernel_rfl) (by kernel_rfl) (by kernel_rfl) (fun _ _ _ h => h) (Or.inl ⟨by rfl, ?h2b⟩) hHeld ?r2b
              case h2b => intro w hSw; (try dsimp only at hSw); go_simp; try with_reducible rfl
              try simp only [Act.put, List.setIfInBounds_toArray, List.set_cons_zero, List.set_cons_succ]
              refine wpAnyH_take (i := 3) (oi := { dst := some 75, op := Op.fieldAddr 82 (Operand.tmp 74) 2, type := 0, pos := "log.go:133", after := #[{ on := 2, ground := Ground.data }], guard := none }) (v := ?v3b) rfl (by kernel_rfl) (by kernel_rfl) (by kernel_rfl) (fun _ _ _ h => h) (Or.inl ⟨by rfl, ?h3b⟩) hHeld ?r3b
              case h3b => intro w hSw; (try dsimp only at hSw); go_simp; try with_reducible rfl
              try simp only [Act.put, List.setIfInBounds_toArray, List.set_cons_zero, List.set_cons_succ]
              refine wpAnyH_take (i := 5) (oi := { dst := some 77, op := Op.move (Operand.tmp 14), type := 3, pos := "log.go:133", after := #[], guard := none }) (v := ?v5b) rfl (by kernel_rfl) (by kernel_rfl) (by kernel_rfl) (fun _ _ _ h => h) (Or.inl ⟨by rfl, ?h5b⟩) hHeld ?r5b
              case h5b => intro w hSw; (try dsimp only at hSw); go_simp; try with_reducible rfl
              try simp only [Act.put, List.setIfInBounds_toArray, List.set_cons_zero, List.set_cons_succ]
              refine wpAnyH_take (i := 6) (oi := { dst := some 78, op := Op.binOp BinOp.sub 3 (Operand.tmp 77) (Operand.const (Value.int IntKind.i64 1)) 3, type := 3, pos := "log.go:133", after := #[{ on := 5, ground := Ground.data }], guard := none }) (v := ?v6b) rfl (by kernel_rfl) (by kernel_rfl) (by kernel_rfl) (fun _ _ _ h => h) (Or.inl ⟨by rfl, ?h6b⟩) hHeld ?r6b
              case h6b => intro w hSw; (try dsimp only at hSw); go_simp; try with_reducible rfl
              try simp only [Act.put, List.setIfInBounds_toArray, List.set_cons_zero, List.set_cons_succ]
              refine wpAnyH_take (i := 7) (oi := { dst := some 79, op := Op.move (Operand.tmp 0), type := 29, pos := "log.go:133", after := #[], guard := none }) (v := ?v7b) rfl (by kernel_rfl) (by kernel_rfl) (by kernel_rfl) (fun _ _ _ h => h) (Or.inl ⟨by rfl, ?h7b⟩) hHeld ?r7b
              case h7b => intro w hSw; (try dsimp only at hSw); go_simp; try with_reducible rfl
              try simp only [Act.put, List.setIfInBounds_toArray, List.set_cons_zero, List.set_cons_succ]
              refine wpAnyH_take (i := 8) (oi := { dst := some 80, op := Op.nilCheck (Operand.tmp 79), type := 0, pos := "log.go:133", after := #[{ on := 7, ground := Ground.data }], guard := none }) (v := ?v8b) rfl (by kernel_rfl) (by kernel_rfl) (by kernel_rfl) (fun _ _ _ h => h) (Or.inl ⟨by rfl, ?h8b⟩) hHeld ?r8b
              case h8b => intro w hSw; (try dsimp only at hSw); go_simp; try with_reducible rfl
              try simp only [Act.put, List.setIfInBounds_toArray, List.set_cons_zero, List.set_cons_succ]
              refine wpAnyH_take (i := 9) (oi := { dst := some 81, op := Op.fieldAddr 82 (Operand.tmp 80) 0, type := 0, pos := "log.go:133", after := #[{ on := 8, ground := Ground.data }], guard := none }) (v := ?v9b) rfl (by kernel_rfl) (by kernel_rfl) (by kernel_rfl) (fun _ _ _ h => h) (Or.inl ⟨by rfl, ?h9b⟩) hHeld ?r9b
              case h9b => intro w hSw; (try dsimp only at hSw); go_simp; try with_reducible rfl
              try simp only [Act.put, List.setIfInBounds_toArray, List.set_cons_zero, List.set_cons_succ]
              refine wpAnyH_take (i := 10) (oi := { dst := some 82, op := Op.load 3 (Operand.tmp 81), type := 3, pos := "log.go:133", after := #[{ on := 9, ground := Ground.data }], guard := none }) (v := ?v10b) rfl (by kernel_rfl) (by kernel_rfl) (by kernel_rfl) (fun _ _ _ h => h) (Or.inl ⟨by rfl, ?h10b⟩) hHeld ?r10b
              case h10b => intro w hSw; (try dsimp only at hSw); go_simp; try with_reducible rfl
              try simp only [Act.put, List.setIfInBounds_toArray, List.set_cons_zero, List.set_cons_succ]
              refine wpAnyH_take (i := 11) (oi := { dst := some 83, op := Op.binOp BinOp.sub 3 (Operand.tmp 78) (Operand.tmp 82) 3, type := 3, pos := "log.go:133", after := #[{ on := 6, ground := Ground.data }, { on := 10, ground := Ground.data }], guard := none }) (v := ?v11b) rfl (by kernel_rfl) (by kernel_rfl) (by kernel_rfl) (fun _ _ _ h => h) (Or.inl ⟨by rfl, ?h11b⟩) hHeld ?r11b
              case h11b => intro w hSw; (try dsimp only at hSw); go_simp; try with_reducible rfl
              try simp only [Act.put, List.setIfInBounds_toArray, List.set_cons_zero, List.set_cons_succ]
              refine wpAnyH_take (i := 14) (oi := { dst := some 86, op := Op.move (Operand.tmp 4), type := 34, pos := "log.go:133", after := #[], guard := none }) (v := ?v14b) rfl (by kernel_rfl) (by kernel_rfl) (by kernel_rfl) (fun _ _ _ h => h) (Or.inl ⟨by rfl, ?h14b⟩) hHeld ?r14b
              case h14b => intro w hSw; (try dsimp only at hSw); go_simp; try with_reducible rfl
              try simp only [Act.put, List.setIfInBounds_toArray, List.set_cons_zero, List.set_cons_succ]
              refine wpAnyH_take (i := 15) (oi := { dst := some 87, op := Op.move (Operand.tmp 13), type := 3, pos := "log.go:133", after := #[], guard := none }) (v := ?v15b) rfl (by kernel_rfl) (by kernel_rfl) (by kernel_rfl) (fun _ _ _ h => h) (Or.inl ⟨by rfl, ?h15b⟩) hHeld ?r15b
              case h15b => intro w hSw; (try dsimp only at hSw); go_simp; try with_reducible rfl
              try simp only [Act.put, List.setIfInBounds_toArray, List.set_cons_zero, List.set_cons_succ]
              refine wpAnyH_take (i := 16) (oi := { dst := some 88, op := Op.slice 34 (Operand.tmp 86) (some (Operand.tmp 87)) none none, type := 34, pos := "log.go:133", after := #[{ on := 14, ground := Ground.data }, { on := 15, ground := Ground.data }], guard := none }) (v := ?v16b) rfl (by kernel_rfl) (by kernel_rfl) (by kernel_rfl) (fun _ _ _ h => h) (Or.inl ⟨by rfl, ?h16b⟩) hHeld ?r16b
              case h16b => intro w hSw; (try dsimp only at hSw); go_simp; try with_reducible rfl
              try simp only [Act.put, List.setIfInBounds_toArray, List.set_cons_zero, List.set_cons_succ]
              refine wpAnyH_ready (rs := [4]) (by kernel_rfl) (by simp) ?_
              refine AllReadyH.cons (o := { dst := some 76, op := Op.load 34 (Operand.tmp 75), type := 34, pos := "log.go:133", after := #[{ on := 3, ground := Ground.data }], guard := none }) rfl (fun KK hK => ?_) ?_
              · go_simp
                refine hK.out _ _ z0 (fun hHeld => ?_)
                clear hK
                try simp only [Act.put, List.setIfInBounds_toArray, List.set_cons_zero, List.set_cons_succ]
                refine wpAnyH_take (i := 12) (oi := { dst := some 84, op := Op.slice 34 (Operand.tmp 76) none (some (Operand.tmp 83)) none, type := 34, pos := "log.go:133", after := #[{ on := 4, ground := Ground.data }, { on := 11, ground := Ground.data }], guard := none }) (v := ?v12b) rfl (by kernel_rfl) (by kernel_rfl) (by kernel_rfl) (fun _ _ _ h => h) (Or.inl ⟨by rfl, ?h12b⟩) hHeld ?r12b
                case h12b => intro w hSw; (try dsimp only at hSw); go_simp; try with_reducible rfl
                try simp only [Act.put, List.setIfInBounds_toArray, List.set_cons_zero, List.set_cons_succ]
                refine wpAnyH_ready (rs := [13]) (by kernel_rfl) (by simp) ?_
                refine AllReadyH.cons (o := { dst := some 85, op := Op.call { callee := Callee.value (Operand.func 16), args := #[Operand.tmp 84], argTypes := #[34] }, type := 34, pos := "log.go:133", after := #[{ on := 12, ground := Ground.data }], guard := none }) rfl (fun KK hK => ?_) ?_
                · go_simp
                  go_wp2_with (go_at_call 16; refine Calls.mono (E1.out _ _ _ _ ?_ ?_ ?_ ?_) ?_; exact rfl; exact rfl; exact rfl; exact hB0; rintro r wE ⟨vE, gE, rfl, hOE, hsyE, hlE, hBE, hBEX⟩; obtain ⟨⟨e0, e2⟩, eb⟩ := HCB.out wE hBE; have HOE : Hid (EntsOw w5.heap.size wE vE gE) := hOE; have HSYE : Hid (gE.map Ent.says = _) := hsyE; have HBE : Hid (Below w5.heap.size w5 wE) := hBE; have HBEX : Hid (Below _ _ wE) := hBEX; have hlenE : gE.length ≤ 10000 := (by have := HLN.out; omega); clear hOE hsyE hlE hBE hBEX)
                  refine hK.out _ _ e0 (fun hHeld => ?_)
                  clear hK
                  try simp only [Act.put, List.setIfInBounds_toArray, List.set_cons_zero, List.set_cons_succ]
                  refine wpAnyH_ready (rs := [17]) (by kernel_rfl) (by simp) ?_
                  refine AllReadyH.cons (o := { dst := some 89, op := Op.call { callee := Callee.value (Operand.func 16), args := #[Operand.tmp 88], argTypes := #[34] }, type := 34, pos := "log.go:133", after := #[{ on := 16, ground := Ground.data }, { on := 13, ground := Ground.chain }], guard := none }) rfl (fun KK hK => ?_) ?_
                  · go_simp
                    go_wp2_with (go_at_call 16; refine Calls.mono (E2.out _ _ _ _ ?_ ?_ ?_ ?_) ?_; exact rfl; exact rfl; exact rfl; exact HBE.out; rintro r wF ⟨vF, gF, rfl, hOF, hsyF, hlF, hBF, hBFX⟩; obtain ⟨⟨f0, f2⟩, fb⟩ := HCB.out wF hBF; obtain ⟨aF, cF, rfl, -, -⟩ := hOF.shape; have HOF : Hid (EntsOw w5.heap.size wF (.slice aF gF.length cF) gF) := hOF; have HSYF : Hid (gF.map Ent.says = _) := hsyF; have HBF : Hid (Below w5.heap.size w5 wF) := hBF; have HBFX : Hid (Below _ _ wF) := hBFX; have hlenF : gF.length ≤ 10000 := (by have := HLN.out; omega); have hlen9 : gE.length + gF.length ≤ 1000000000 := (by omega); clear hOF hsyF hlF hBF hBFX)
                    refine hK.out _ _ f0 (fun hHeld => ?_)
                    clear hK
                    try simp only [Act.put, List.setIfInBounds_toArray, List.set_cons_zero, List.set_cons_succ]
                    refine wpAnyH_ready (rs := [18]) (by kernel_rfl) (by simp) ?_
                    refine AllReadyH.cons (o := { dst := some 90, op := Op.call { callee := Callee.builtin Builtin.append, args := #[Operand.tmp 85, Operand.tmp 89], argTypes := #[34, 34] }, type := 34, pos := "log.go:133", after := #[{ on := 13, ground := Ground.data }, { on := 17, ground := Ground.data }, { on := 17, ground := Ground.chain }], guard := none }) rfl (fun KK hK => ?_) ?_
                    · refine step_append_ents rfl (.tmp 85) (.tmp 89) rfl w.heap.size wF.heap.size vE aF cF gE gF (by simp [Act.eval]) ((HOE.out.below HBFX.out).base HB5Z.out).row (by simp [Act.eval]) (HOF.out.at) hlen9 (HNW.out _ HBF.out) ?_
                      intro v' w9 q1 q2 q3
                      obtain ⟨⟨g1, g2⟩, ⟨g3, g4, g5⟩, g6, g7⟩ := HG.out wF w9 vE gE gF _ v' HBF.out (HOE.out.below HBFX.out) HOF.out q1 q2
                      have g0 := HG0.out w9 g1
                      have G1 : Hid (Below _ _ _) := g1
                      have G2 : Hid (EntsOw _ _ _ _) := g2
                      obtain ⟨sa, sc, hsh⟩ := row_shape q1
                      clear q1 q2 q3 g1 g2
                      subst hsh
                      refine hK.out _ _ g0 (fun hHeld => ?_)
                      clear hK
                      try simp only [Act.put, List.setIfInBounds_toArray, List.set_cons_zero, List.set_cons_succ]
                      refine wpAnyH_take (i := 19) (oi := { dst := some 91, op := Op.nilCheck (Operand.tmp 72), type := 0, pos := "log.go:133", after := #[{ on := 0, ground := Ground.data }, { on := 0, ground := Ground.phase }, { on := 1, ground := Ground.phase }, { on := 2, ground := Ground.phase }, { on := 3, ground := Ground.phase }, { on := 4, ground := Ground.phase }, { on := 5, ground := Ground.phase }, { on := 6, ground := Ground.phase }, { on := 7, ground := Ground.phase }, { on := 8, ground := Ground.phase }, { on := 9, ground := Ground.phase }, { on := 10, ground := Ground.phase }, { on := 11, ground := Ground.phase }, { on := 12, ground := Ground.phase }, { on := 13, ground := Ground.phase }, { on := 14, ground := Ground.phase }, { on := 15, ground := Ground.phase }, { on := 16, ground := Ground.phase }, { on := 17, ground := Ground.phase }, { on := 18, ground := Ground.phase }], guard := none }) (v := ?v19b) rfl (by kernel_rfl) (by kernel_rfl) (by kernel_rfl) (fun _ _ _ h => h) (Or.inl ⟨by rfl, ?h19b⟩) hHeld ?r19b
                      case h19b => intro w hSw; (try dsimp only at hSw); go_simp; try with_reducible rfl
                      try simp only [Act.put, List.setIfInBounds_toArray, List.set_cons_zero, List.set_cons_succ]
                      refine wpAnyH_take (i := 20) (oi := { dst := some 92, op := Op.fieldAddr 82 (Operand.tmp 91) 2, type := 0, pos := "log.go:133", after := #[{ on := 19, ground := Ground.data }, { on := 0, ground := Ground.phase }, { on := 1, ground := Ground.phase }, { on := 2, ground := Ground.phase }, { on := 3, ground := Ground.phase }, { on := 4, ground := Ground.phase }, { on := 5, ground := Ground.phase }, { on := 6, ground := Ground.phase }, { on := 7, ground := Ground.phase }, { on := 8, ground := Ground.phase }, { on := 9, ground := Ground.phase }, { on := 10, ground := Ground.phase }, { on := 11, ground := Ground.phase }, { on := 12, ground := Ground.phase }, { on := 13, ground := Ground.phase }, { on := 14, ground := Ground.phase }, { on := 15, ground := Ground.phase }, { on := 16, ground := Ground.phase }, { on := 17, ground := Ground.phase }, { on := 18, ground := Ground.phase }], guard := none }) (v := ?v20b) rfl (by kernel_rfl) (by kernel_rfl) (by kernel_rfl) (fun _ _ _ h => h) (Or.inl ⟨by rfl, ?h20b⟩) hHeld ?r20b
                      case h20b => intro w hSw; (try dsimp only at hSw); go_simp; try with_reducible rfl
                      try simp only [Act.put, List.setIfInBounds_toArray, List.set_cons_zero, List.set_cons_succ]
                      refine wpAnyH_ready (rs := [21]) (by kernel_rfl) (by simp) ?_
                      refine AllReadyH.cons (o := { dst := none, op := Op.store 34 (Operand.tmp 92) (Operand.tmp 90), type := 0, pos := "log.go:133", after := #[{ on := 20, ground := Ground.data }, { on := 18, ground := Ground.data }, { on := 18, ground := Ground.chain }, { on := 0, ground := Ground.phase }, { on := 1, ground := Ground.phase }, { on := 2, ground := Ground.phase }, { on := 3, ground := Ground.phase }, { on := 4, ground := Ground.phase }, { on := 5, ground := Ground.phase }, { on := 6, ground := Ground.phase }, { on := 7, ground := Ground.phase }, { on := 8, ground := Ground.phase }, { on := 9, ground := Ground.phase }, { on := 10, ground := Ground.phase }, { on := 11, ground := Ground.phase }, { on := 12, ground := Ground.phase }, { on := 13, ground := Ground.phase }, { on := 14, ground := Ground.phase }, { on := 15, ground := Ground.phase }, { on := 16, ground := Ground.phase }, { on := 17, ground := Ground.phase }, { on := 18, ground := Ground.phase }], guard := none }) rfl (fun KK hK => ?_) ?_
                      · go_simp
                        refine hK.out _ _ ?hsb (fun hHeld => ?_)
                        case hsb => exact (World.cell?_setCell_other _ ⟨b, 2, none⟩ ⟨b, 0, none⟩ _ (by simp)).trans g0
                        clear hK
                        refine wpAnyH_done (by kernel_rfl) ?_ _
                        go_wp2_with fail
                        all_goals
                          refine Calls.mono (HCM.out _ (puP P K (F.drop k)) _ (HTB.out w9 _ (gE ++ gF) _ _ G1.out G2.out (by rw [List.map_append, HSYE.out, HSYF.out]) (by have := HIK.out; omega) (by have := HIK.out; omega))) ?_
                          rintro r w6 ⟨⟨gb, rfl⟩, hT6⟩
                          have HT6 : Hid (RTh _ _ _ w6 _ _) := hT6
                          clear hT6
                          go_wp2
                          go_returns
                          obtain ⟨t1, t2, t3⟩ := HTA.out
                          exact ⟨by rw [t1, t2]; rfl, by first | (rw [t3 (i + (fs.length : Int)) (by omega)]; exact HT6.out) | (rw [t3 c (by omega)]; exact HT6.out)⟩
                      exact AllReadyH.nil
                    exact AllReadyH.nil
                  exact AllReadyH.nil
                exact AllReadyH.nil
              exact AllReadyH.nil
    · have hkq : q = fs.length := by have := HRK.out; rw [List.drop_eq_nil_of_le (by have := HN0.out.2.2.2.2.2.1; omega)] at this; simp [knN] at this; omega
      obtain ⟨a1, a2, a3, a4⟩ := HA.out hkq
      have HTA : Hid (rA = i + (fs.length : Int) ∧ rY = true ∧ ∀ x, x = min c (i + (fs.length : Int)) → rL = coP P x) := ⟨a1, a2, fun x hx => a3 w x (Below.refl _ _) hx⟩
      have HTB : Hid (RTh N S w wr b P) := a4 wr HB.out
      have hkl : k = fs.length := by omega
      subst hkl
      clear HA HN HP HS1 HS2 a1 a2 a3 a4 hkq HRK hk hlt HIX
      as_aux_lemma =>
        go_wp2_with fail
        go_quiet (fail)
        go_wp2_with fail
        all_goals
          refine (HCM.out (wr.drewN nq) P _ (HTB.out.post (below_drewN (Below.refl _ _) _) HNN.out)).mono ?_
          rintro r w6 ⟨⟨gb, rfl⟩, hT6⟩
          have HT6 : Hid (RTh _ _ _ w6 _ _) := hT6
          clear hT6
          go_wp2
          go_returns
          obtain ⟨t1, t2, t3⟩ := HTA.out
          exact ⟨by rw [t1, t2]; rfl, by first | (rw [t3 (i + (fs.length : Int)) (by omega)]; exact HT6.out) | (rw [t3 c (by omega)]; exact HT6.out)⟩
end Go.Proofs.Yteekpfgjpdopmaa
