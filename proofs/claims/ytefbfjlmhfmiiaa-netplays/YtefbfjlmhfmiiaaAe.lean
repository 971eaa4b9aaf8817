/-
  add: one mail more, if there is room; Send.
-/
import Derived.Test.YtefbfjlmhfmiiaaAd
namespace Go.Proofs.Ytefbfjlmhfmiiaa
open Go.RowKit
set_option linter.unusedVariables false

set_option maxRecDepth 100000 in
set_option maxHeartbeats 4000000 in
/-- add, no room. -/
theorem add_no {N : Nat} {S : Nat → Prop} {w : World} {b : Nat} {P : PN} (h : Nt N S w b P) (hN : N ≤ w.heap.size) (n0 f t : Int) (a : Option Addr) (d : List UInt8) (cap : Nat) (s : Bool) (hr : ¬ P.E.length < 2000) :
    Calls Try.prog 39 #[.pointer (some ⟨b, 0, none⟩), .agg #[.int .i64 n0, .int .i64 f, .int .i64 t, .slice a d.length cap, .bool s]] w fun e w' => e = .returned (.bool false) ∧ NTh N S w w' b (P.add f t d s) := by
  obtain ⟨va, vc, es, hm, -⟩ := h.cells
  have hbw := h.inn _ h.Sb
  have HT : Hid (∀ o, NTh N S w (w.alloc o) b (P.add f t d s)) := fun o => by
    have : P.add f t d s = P := by unfold PN.add; rw [if_neg hr]
    rw [this]; exact h.th hN ((Below.refl _ w).alloc (Nat.le_refl _) _)
  obtain ⟨-, -, c65, -⟩ := cell_net hm.blk h.ok.len
  have hr' : (2000 : Int) ≤ (P.E.length : Int) := by omega
  clear h hm hr
  generalize P.E.length = m at *
  go_enter Try.func39, Try.ntmps39
  go_wp2
  go_ret
  exact ⟨rfl, HT.out _⟩

set_option maxRecDepth 100000 in
set_option maxHeartbeats 4000000 in
/-- add. -/
theorem add_ok {N : Nat} {S : Nat → Prop} {w : World} {b : Nat} {P : PN} (h : Nt N S w b P) (hN : N ≤ w.heap.size) (n0 f t : Int) (a : Option Addr) (d : List UInt8) (cap : Nat) (s : Bool) (hd : d.length ≤ 140737488355328) (hsep : ∀ w', Out (fun i => i = b) w w' → Sl w'.heap.size w' (.slice a d.length cap) d) (hr : P.E.length < 2000) (hk : P.k < 1000000000) :
    Calls Try.prog 39 #[.pointer (some ⟨b, 0, none⟩), .agg #[.int .i64 n0, .int .i64 f, .int .i64 t, .slice a d.length cap, .bool s]] w fun e w' => e = .returned (.bool true) ∧ NTh N S w w' b (P.add f t d s) := by
  obtain ⟨va, vc, es, hm, hl, hvc, hvm, hv1, hv2⟩ := h.cells
  have hbw := h.inn _ h.Sb
  have hk0 := h.ok.k0
  obtain ⟨-, -, c65, c66, cf⟩ := cell_net hm.blk h.ok.len
  have f66 := cf 66
  have hr' : ¬ (2000 : Int) ≤ (P.E.length : Int) := by omega
  have hkw : IntKind.i64.wrap (P.k + 1) = P.k + 1 := by rw [IntKind.wrap_i64]; omega
  obtain ⟨W2, hW2⟩ : ∃ W2, (w.setCell ⟨b, 66, none⟩ (.int .i64 (P.k + 1))).alloc (.cells #[.int .i64 n0, .int .i64 f, .int .i64 t, .slice a d.length cap, .bool s] 41) = W2 := ⟨_, rfl⟩
  have HW2 : Hid ((w.setCell ⟨b, 66, none⟩ (.int .i64 (P.k + 1))).alloc (.cells #[.int .i64 n0, .int .i64 f, .int .i64 t, .slice a d.length cap, .bool s] 41) = W2) := hW2
  have hO2 : Out (fun i => i = b) w W2 := by rw [← hW2]; exact ((Out.refl (fun i => i = b) w).put rfl).alloc _
  have hz2 : W2.heap.size = w.heap.size + 1 := by rw [← hW2]; simp [World.setCell]
  have hb2 : W2.heap[b]? = some (.cells (netCells P.n P.L (.slice va P.E.length vc) (P.k + 1)) 57 (0, 0)) := by
    rw [← hW2]
    have := heap_set hm.blk 66 (.int .i64 (P.k + 1))
    rw [netCells_setK _ _ _ _ _ h.ok.len] at this
    exact (heap_alloc_old _ _ (by rw [size_set]; exact hbw)).trans this
  have hB2 : W2.heap[w.heap.size]? = some (.cells #[.int .i64 n0, .int .i64 f, .int .i64 t, .slice a d.length cap, .bool s] 41 (0, 0)) := by
    rw [← hW2]
    have := heap_alloc_new (w.setCell ⟨b, 66, none⟩ (.int .i64 (P.k + 1))) (.cells #[.int .i64 n0, .int .i64 f, .int .i64 t, .slice a d.length cap, .bool s] 41)
    rw [size_set] at this
    exact this
  have hrow2 : MlsOw 41 0 W2 (.slice va P.E.length vc) es := hm.row.out hO2 (by rintro g hg rfl; exact hm.row.not_at hm.blk (by decide) hg) (by rintro e he g hg rfl; exact (hm.row.dat e he).not_at hm.blk (by decide) hg)
  have hown := own_any n0 f t a d cap s W2.heap.size W2 (hsep W2 hO2) (Nat.le_refl _) hd
  obtain ⟨⟨x0, x1, x2, x3, x4⟩, xf⟩ := cells5 hB2
  have HXX : Hid (∀ w3, Below W2.heap.size W2 w3 → w3.heap[w.heap.size]? = some (.cells #[.int .i64 n0, .int .i64 f, .int .i64 t, .slice a d.length cap, .bool s] 41 (0, 0)) ∧ w3.heap[b]? = some (.cells (netCells P.n P.L (.slice va P.E.length vc) (P.k + 1)) 57 (0, 0))) := fun w3 h3 => ⟨(h3.block _ (by omega)).trans hB2, (h3.block _ (by omega)).trans hb2⟩
  have HOWN : Hid (Calls _ _ _ _ _) := hown
  have HLEN : Hid (P.L.length = 64) := h.ok.len
  have hbB : ¬ b = w.heap.size := by omega
  have hBb : ¬ w.heap.size = b := by omega
  -- behind the stores into the mail
  have HF : Hid (∀ (w3 W4 : World) (xa : Option Addr) (xc : Nat), Below W2.heap.size W2 w3 → Ow W2.heap.size w3 (.slice xa d.length xc) d → W4.heap[w.heap.size]? = some (.cells #[.int .i64 (P.k + 1), .int .i64 f, .int .i64 t, .slice xa d.length xc, .bool s] 41 (0, 0)) → Out (fun i => i = w.heap.size) w3 W4 →
      (W4.heap[b]? = some (.cells (netCells P.n P.L (.slice va P.E.length vc) (P.k + 1)) 57 (0, 0)) ∧ b < W4.heap.size ∧ w.heap.size < W4.heap.size ∧ MlsOw 41 0 W4 (.slice va P.E.length vc) es ∧ Ow W2.heap.size W4 (.slice xa d.length xc) d ∧ Out (fun i => i = b) w W4)) := fun w3 W4 xa xc h3 hO3 hB4 hO4 => by
    have hz3 := h3.size
    have hz4 := hO4.size
    refine ⟨(hO4.block b (by omega) (by omega)).trans ((h3.block b (by omega)).trans hb2), by omega, by omega, (hrow2.below h3).out hO4 ?_ ?_, hO3.out hO4 ?_, ?_⟩
    · rintro g hg rfl; have := h.inn _ (hv1 _ hg); omega
    · rintro e he g hg rfl; have := h.inn _ (hv2 e he _ hg); omega
    · rintro g hg rfl; have := (hO3.lt hg).1; omega
    · exact (hO2.trans (Out.of_below (X := fun _ => False) h3) (fun _ hf _ => hf.elim)).trans hO4 (fun i hi hlt => by omega)
  have HG : Hid (∀ (W4 w6 : World) (n : Nat) (xa : Option Addr) (xc : Nat) (v' : Value), (MlsOw 41 0 W4 (.slice va P.E.length vc) es ∧ Ow W2.heap.size W4 (.slice xa d.length xc) d ∧ Out (fun i => i = b) w W4) → W4.heap[b]? = some (.cells (netCells P.n P.L (.slice va P.E.length vc) (P.k + 1)) 57 (0, 0)) → w6.ownsRow 0 41 5 v' (es.length + 1) (mlCells es ++ mlCells [⟨P.k + 1, f, t, xa, xc, d, s⟩]) → ((W4.drewN n).alloc (.cells #[.int .i64 (P.k + 1), .int .i64 f, .int .i64 t, .slice xa d.length xc, .bool s] 41)).grownBy w6 (Value.slice va P.E.length vc).ownBlock → (v'.ownBlock = (Value.slice va P.E.length vc).ownBlock ∨ v'.ownBlock = some ((W4.drewN n).alloc (.cells #[.int .i64 (P.k + 1), .int .i64 f, .int .i64 t, .slice xa d.length xc, .bool s] 41)).heap.size) → (w6.cell? ⟨b, 65, none⟩ = some (.slice va P.E.length vc) ∧ w6.frozen? ⟨b, 65, none⟩ = false ∧ b < w6.heap.size) ∧ NTh N S w (w6.setCell ⟨b, 65, none⟩ v') b (P.add f t d s)) := fun W4 w6 n xa xc v' ⟨hr4, hx4, hO4⟩ hb4 hrw hg hvv => by
    have hb4w := (Array.getElem?_eq_some_iff.1 hb4).1
    have hO5 : Out (fun i => i = b) w ((W4.drewN n).alloc (.cells #[.int .i64 (P.k + 1), .int .i64 f, .int .i64 t, .slice xa d.length xc, .bool s] 41)) := (hO4.trans (Y := fun _ => False) (Out.drew W4 n) (fun _ hf _ => hf.elim)).alloc _
    have hB5 : Below W4.heap.size W4 ((W4.drewN n).alloc (.cells #[.int .i64 (P.k + 1), .int .i64 f, .int .i64 t, .slice xa d.length xc, .bool s] 41)) := (below_drewN (Below.refl _ W4) n).alloc (by simp) _
    have hr5 := hr4.below hB5
    have hx5 := hx4.below hB5 (Nat.le_refl _)
    have hb5 := (hB5.block b hb4w).trans hb4
    have hne : (Value.slice va P.E.length vc).ownBlock ≠ some b := hr4.not_at hb4 (by decide)
    have hb5w := Nat.lt_of_lt_of_le hb4w hB5.size
    have hb6 := (hg.block b hb5w (fun e => hne e.symm)).trans hb5
    have hfin : MlsOw 41 0 w6 v' (es ++ [⟨P.k + 1, f, t, xa, xc, d, s⟩]) := hr5.app (by decide) (fun e he => by obtain rfl := List.mem_singleton.1 he; exact hx5.base (Nat.zero_le _)) (by simpa using hrw) hg
    have hOr : Out S ((W4.drewN n).alloc (.cells #[.int .i64 (P.k + 1), .int .i64 f, .int .i64 t, .slice xa d.length xc, .bool s] 41)) w6 := Out.grown hg (fun j hj => hv1 j hj)
    have hO6 : Out S w w6 := (hO5.mono (fun i hi => by rw [hi]; exact h.Sb)).trans hOr (fun _ hi _ => hi)
    have hne6 : v'.ownBlock ≠ some b := hfin.not_at hb6 (by decide)
    obtain ⟨-, -, q65, -, qf⟩ := cell_net hb6 h.ok.len
    refine ⟨⟨q65, qf 65, Nat.lt_of_lt_of_le hbw hO6.size⟩, ?_⟩
    have hadd : P.add f t d s = { P with E := P.E ++ [(P.k + 1, f, t, d, s)], k := P.k + 1 } := by unfold PN.add; rw [if_pos hr]
    have hO6' : Out S w (w6.setCell ⟨b, 65, none⟩ v') := hO6.put h.Sb
    refine h.turn hN hO6' v' (es ++ [⟨P.k + 1, f, t, xa, xc, d, s⟩]) ⟨?_, ?_, ?_, ?_⟩ ?_ ?_ (PN.add_ok h.ok _ _ _ _ hd)
    · rw [hadd, heap_set hb6 65 v', netCells_setRow _ _ _ _ _ h.ok.len]
    · exact hfin.out (X := fun i => i = b) (Out.set rfl) (by rintro g hg' rfl; exact hne6 hg') (fun e he g hg' e' => by subst e'; exact (hfin.dat e he).not_at hb6 (by decide) hg')
    · rw [hadd, List.map_append, hm.says]; rfl
    · rw [List.pairwise_append]
      refine ⟨hm.apt, List.pairwise_singleton _ _, fun e he e' he' => ?_⟩
      obtain rfl := List.mem_singleton.1 he'
      intro g hg1 hg2
      have h1 := h.inn _ (hv2 e he g hg1)
      have h2 := (hx4.lt hg2).1
      omega
    · intro g hg'
      rcases hvv with e | e
      · exact .inl (hv1 g (e ▸ hg'))
      · rw [e] at hg'
        cases hg'
        right
        have h1 := hO5.size
        have h2 := (hfin.lt e).2
        simp only [World.size_alloc] at h1 h2 ⊢
        rw [size_set]
        exact ⟨h1, h2⟩
    · intro e he g hg'
      rcases List.mem_append.1 he with he | he
      · exact .inl (hv2 e he g hg')
      · obtain rfl := List.mem_singleton.1 he
        right
        have h1 := (hx5.lt hg').1
        have h2 := (hx5.lt hg').2
        have h3 := hg.size
        rw [size_set]
        omega
  have HBB : Hid (∀ w3, Below W2.heap.size W2 w3 → w3.heap.size ≥ w.heap.size + 1) := fun w3 h3 => by have := h3.size; omega
  have HES : Hid (es.length + 1 ≤ 1000000000) := by show _ ≤ _; omega
  have HX0 : Hid (∀ W4 : World, W4.heap[w.heap.size]? = some (.cells #[.int .i64 (P.k + 1), .int .i64 f, .int .i64 t, .slice none 0 0, .bool s] 41 (0, 0)) → True) := fun _ _ => trivial
  clear hown hW2 hb2 hB2 hrow2 hO2 hm h hl hv1 hv2 hd hsep hr cf hk hk0 HX0
  generalize P.E.length = m at *
  go_enter Try.func39, Try.ntmps39
  go_wp2_with fail
  rw [HW2.out]
  refine HOWN.out.mono ?_
  rintro e w3 ⟨xa, xc, rfl, hO3, hB3⟩
  obtain ⟨hX3, hb3⟩ := HXX.out w3 hB3
  obtain ⟨⟨y0, y1, y2, y3, y4⟩, yf⟩ := cells5 hX3
  obtain ⟨-, -, z65, z66, zf⟩ := cell_net hb3 HLEN.out
  have hw3 := HBB.out w3 hB3
  have HO3 : Hid (Ow W2.heap.size w3 (.slice xa d.length xc) d) := hO3
  have HB3 : Hid (Below W2.heap.size W2 w3) := hB3
  have HX3 : Hid (w3.heap[w.heap.size]? = _) := hX3
  have Hb3 : Hid (w3.heap[b]? = _) := hb3
  clear hO3 hB3 hX3 hb3 HOWN HBB HXX HW2
  go_wp2_with fail
  obtain ⟨W4, hW4⟩ : ∃ W4, ((((((w3.setCell ⟨w.heap.size, 0, none⟩ (.int .i64 n0)).setCell ⟨w.heap.size, 1, none⟩ (.int .i64 f)).setCell ⟨w.heap.size, 2, none⟩ (.int .i64 t)).setCell ⟨w.heap.size, 3, none⟩ (.slice xa d.length xc)).setCell ⟨w.heap.size, 4, none⟩ (.bool s)).setCell ⟨w.heap.size, 0, none⟩ (.int .i64 (P.k + 1))) = W4 := ⟨_, rfl⟩
  have hX4 : W4.heap[w.heap.size]? = some (.cells #[.int .i64 (P.k + 1), .int .i64 f, .int .i64 t, .slice xa d.length xc, .bool s] 41 (0, 0)) := by
    rw [← hW4]
    exact heap_set (set5 HX3.out _ _ _ _ _) 0 _
  have hO4 : Out (fun i => i = w.heap.size) w3 W4 := by
    rw [← hW4]
    exact (((((((Out.refl (fun i => i = w.heap.size) w3).put rfl).put rfl).put rfl).put rfl).put rfl).put rfl)
  obtain ⟨hb4, hbw4, hBw4, hr4⟩ := HF.out w3 W4 xa xc HB3.out HO3.out hX4 hO4
  rw [hW4]
  obtain ⟨⟨u0, u1, u2, u3, u4⟩, -⟩ := cells5 hX4
  obtain ⟨-, -, v65, -, -⟩ := cell_net hb4 HLEN.out
  have HR4 : Hid (_ ∧ _ ∧ _) := hr4
  have HB4 : Hid (W4.heap[b]? = _) := hb4
  have hrow5 : ∀ n, ((W4.drewN n).alloc (.cells #[.int .i64 (P.k + 1), .int .i64 f, .int .i64 t, .slice xa d.length xc, .bool s] 41)).ownsRow 0 41 5 (.slice va m vc) es.length (mlCells es) := fun n => World.ownsRow.alloc hr4.1.row _
  have hsl5 : ∀ n, MlsAt (W4.heap.size + 1) ((W4.drewN n).alloc (.cells #[.int .i64 (P.k + 1), .int .i64 f, .int .i64 t, .slice xa d.length xc, .bool s] 41)) (some ⟨W4.heap.size, 0, none⟩) [(⟨P.k + 1, f, t, xa, xc, d, s⟩ : Ml)] := fun n => mls_one 41 (W4.drewN n) ⟨P.k + 1, f, t, xa, xc, d, s⟩ W4.heap.size (hr4.2.1.sl (Nat.le_refl _)) (Nat.le_refl _)
  clear hX4 hO4 hW4 hr4 hb4 y0 y1 y2 y3 y4 yf z65 z66 zf HX3 Hb3 HB3 HO3 HF
  go_region_law (first
    | (refine step_append_mls tyM rfl (.tmp 29) (.tmp 31) rfl 0 (W4.heap.size + 1) (.slice va m vc) (some ⟨W4.heap.size, 0, none⟩) 1 es [(⟨P.k + 1, f, t, xa, xc, d, s⟩ : Ml)] (by simp [Act.eval]) (hrow5 1) (by simp [Act.eval]) (hsl5 1) HES.out (Nat.zero_le _) ?_; intro v' w6 q1 q2 q3; obtain ⟨⟨n2, nf, nz⟩, hT⟩ := HG.out W4 w6 1 xa xc v' HR4.out HB4.out q1 q2 q3; have HT : Hid (NTh _ _ _ _ _ _) := hT; obtain ⟨sa, sc, hsh⟩ := row_shape q1; clear q1 q2 q3 hT; subst hsh)
    | fail)
  all_goals (go_wp2; go_ret; exact ⟨rfl, HT.out⟩)

/-- add. -/
theorem add_any {N : Nat} {S : Nat → Prop} {w : World} {b : Nat} {P : PN} (h : Nt N S w b P) (hN : N ≤ w.heap.size) (n0 f t : Int) (a : Option Addr) (d : List UInt8) (cap : Nat) (s : Bool) (hd : d.length ≤ 140737488355328) (hsep : ∀ w', Out (fun i => i = b) w w' → Sl w'.heap.size w' (.slice a d.length cap) d) (hk : P.k < 1000000000) :
    Calls Try.prog 39 #[.pointer (some ⟨b, 0, none⟩), .agg #[.int .i64 n0, .int .i64 f, .int .i64 t, .slice a d.length cap, .bool s]] w fun e w' => e = .returned (.bool (decide (P.E.length < 2000))) ∧ NTh N S w w' b (P.add f t d s) := by
  by_cases hr : P.E.length < 2000
  · have := add_ok h hN n0 f t a d cap s hd hsep hr hk
    simpa [hr] using this
  · have := add_no h hN n0 f t a d cap s hr
    simpa [hr] using this

/-- Send's answer, and what it leaves. -/
def PN.snd (P : PN) (f t : Int) : Bool := P.lnk f t && decide (P.E.length < 2000)
def PN.send (P : PN) (f t : Int) (d : List UInt8) : PN := if P.lnk f t = true then P.add f t d false else P

set_option maxRecDepth 100000 in
set_option maxHeartbeats 4000000 in
/-- Send. -/
theorem Send_any {N : Nat} {S : Nat → Prop} {w : World} {b : Nat} {P : PN} (h : Nt N S w b P) (hN : N ≤ w.heap.size) (f t : Int) (a : Option Addr) (d : List UInt8) (cap : Nat) (hd : d.length ≤ 140737488355328) (hsep : ∀ w', Out (fun i => i = b) w w' → Sl w'.heap.size w' (.slice a d.length cap) d) (hk : P.k < 1000000000) :
    Calls Try.prog 15 #[.pointer (some ⟨b, 0, none⟩), .int .i64 f, .int .i64 t, .slice a d.length cap] w fun e w' => e = .returned (.bool (P.snd f t)) ∧ NTh N S w w' b (P.send f t d) := by
  have HLK : Hid (Calls _ _ _ _ _) := Linked_any h f t
  have HAD : Hid (Calls _ _ _ _ _) := add_any h hN 0 f t a d cap false hd hsep hk
  unfold PN.snd PN.send
  by_cases hl : P.lnk f t = true
  · rw [if_pos hl]
    rw [hl] at HLK ⊢
    clear h hsep hl
    generalize decide (P.E.length < 2000) = u at *
    go_enter Try.func15, Try.ntmps15
    go_wp2_with fail
    refine HLK.out.mono ?_
    rintro e w1 ⟨rfl, hw⟩
    subst w1
    go_wp2_with fail
    refine HAD.out.mono ?_
    rintro e w1 ⟨rfl, hT⟩
    have HT : Hid (NTh _ _ _ _ _ _) := hT
    clear hT
    go_wp2
    go_ret
    exact ⟨by simp, HT.out⟩
  · have hl' : P.lnk f t = false := by simpa using hl
    rw [if_neg hl]
    have HT : Hid (NTh N S w w b P) := h.th hN (Below.refl _ _)
    rw [hl'] at HLK ⊢
    clear h hsep hl hl' HAD
    go_enter Try.func15, Try.ntmps15
    go_wp2_with fail
    refine HLK.out.mono ?_
    rintro e w1 ⟨rfl, hw⟩
    subst w1
    go_wp2
    go_ret
    exact ⟨by simp, HT.out⟩
end Go.Proofs.Ytefbfjlmhfmiiaa
