/-
  The document's network: Send.
-/
import Derived.Test.YtefbfjlmhfmiiaaRb
namespace Go.Proofs.Ytefbfjlmhfmiiaa
open Go.RowKit
set_option linter.unusedVariables false

theorem CutOk.same {P P' : PN} {C : List Pr} (h : CutOk P C) (hn : P'.n = P.n) (hL : P'.L = P.L) : CutOk P' C := fun a b ht => by
  have : P.two a b = true := by unfold PN.two PN.has at ht ⊢; rw [hn] at ht; exact ht
  rw [hL]; exact h a b this

/-- Behind an append of one mail. -/
theorem Rn.added {N : Nat} {S : Nat → Prop} {w W2 w3 w6 : World} {b : Nat} {P : PN} {C : List Pr} {va : Option Addr} {vn : Nat} {es : List Ml} {ca : Option Addr} {cn : Nat} (h : Rn N S w b P C) (hN : N ≤ w.heap.size)
    (hm : RM w b P C (.slice va P.E.length vn) es (.slice ca C.length cn)) (hv1 : ∀ g, (Value.slice va P.E.length vn).ownBlock = some g → S g) (hv2 : ∀ e ∈ es, ∀ g, e.x.ownBlock = some g → S g) (hv3 : ∀ g, (Value.slice ca C.length cn).ownBlock = some g → S g)
    {f t : Int} {d : List UInt8} {s : Bool} (hr : P.E.length < 2000) (hd : d.length ≤ 140737488355328) {xa : Option Addr} {xc : Nat} {v' : Value} {n : Nat}
    (hO2 : Out (fun i => i = b) w W2) (hb2 : W2.heap[b]? = some (.cells #[.int .i64 P.n, .slice va P.E.length vn, .int .i64 (P.k + 1), .slice ca C.length cn] 39 (0, 0))) (hB3 : Below W2.heap.size W2 w3) (hO3 : Ow W2.heap.size w3 (.slice xa d.length xc) d)
    (hrw : w6.ownsRow 0 58 5 v' (es.length + 1) (mlCells es ++ mlCells [(⟨P.k + 1, f, t, xa, xc, d, s⟩ : Ml)])) (hg : ((w3.drewN n).alloc (.cells #[.int .i64 (P.k + 1), .int .i64 f, .int .i64 t, .slice xa d.length xc, .bool s] 58)).grownBy w6 (Value.slice va P.E.length vn).ownBlock)
    (hvv : v'.ownBlock = (Value.slice va P.E.length vn).ownBlock ∨ v'.ownBlock = some ((w3.drewN n).alloc (.cells #[.int .i64 (P.k + 1), .int .i64 f, .int .i64 t, .slice xa d.length xc, .bool s] 58)).heap.size) :
    (w6.cell? ⟨b, 1, none⟩ = some (.slice va P.E.length vn) ∧ w6.cell? ⟨b, 2, none⟩ = some (.int .i64 (P.k + 1)) ∧ w6.frozen? ⟨b, 1, none⟩ = false ∧ b < w6.heap.size ∧ ∃ sa sc, v' = .slice sa (es.length + 1) sc) ∧ RTh N S w (w6.setCell ⟨b, 1, none⟩ v') b (P.add f t d s) C := by
  have hbw := h.inn _ h.Sb
  have hz2 := hO2.size
  have hz3 := hB3.size
  obtain ⟨W5, hW5⟩ : ∃ W5, (w3.drewN n).alloc (.cells #[.int .i64 (P.k + 1), .int .i64 f, .int .i64 t, .slice xa d.length xc, .bool s] 58) = W5 := ⟨_, rfl⟩
  rw [hW5] at hg hvv
  have hB5 : Below W2.heap.size W2 W5 := by rw [← hW5]; exact (below_drewN hB3 n).alloc (by show W2.heap.size ≤ w3.heap.size; omega) _
  have hz5 : W5.heap.size = w3.heap.size + 1 := by rw [← hW5]; simp
  have hO5 : Out (fun i => i = b) w W5 := hO2.trans (Y := fun _ => False) (Out.of_below hB5) (fun _ hf _ => hf.elim)
  have hx5 : Ow W2.heap.size W5 (.slice xa d.length xc) d := by rw [← hW5]; exact Ow.alloc (hO3.out (X := fun _ => False) (Out.drew w3 n) (fun _ _ hf => hf)) _
  have hr5 : MlsOw 58 0 W5 (.slice va P.E.length vn) es := hm.row.out hO5 (by rintro g hg rfl; exact hm.row.not_at hm.blk (by decide) hg) (by rintro e he g hg rfl; exact (hm.row.dat e he).not_at hm.blk (by decide) hg)
  have hc5 : POw 0 W5 (.slice ca C.length cn) C := hm.cut.out hO5 (by rintro g hg rfl; exact hm.cut.not_at hm.blk (by decide) hg)
  have hb5 := (hB5.block b (by omega)).trans hb2
  have hne : (Value.slice va P.E.length vn).ownBlock ≠ some b := hm.row.not_at hm.blk (by decide)
  have hb6 := (hg.block b (by omega) (fun e => hne e.symm)).trans hb5
  have hfin : MlsOw 58 0 w6 v' (es ++ [⟨P.k + 1, f, t, xa, xc, d, s⟩]) := hr5.app (by decide) (fun e he => by obtain rfl := List.mem_singleton.1 he; exact hx5.base (Nat.zero_le _)) (by simpa using hrw) hg
  have hOr : Out (fun j => (Value.slice va P.E.length vn).ownBlock = some j) W5 w6 := Out.grown hg (fun j hj => hj)
  have hO6 : Out S w w6 := (hO5.mono (fun i hi => by rw [hi]; exact h.Sb)).trans hOr (fun j hj _ => hv1 j hj)
  have hc6 : POw 0 w6 (.slice ca C.length cn) C := hc5.out hOr (by
    intro g hg' hgv
    rcases hr5.row.2 with ⟨hvz, -⟩ | ⟨g9, cap9, cur9, hv9, -, hh9, -⟩
    · simp only [Value.slice.injEq] at hvz
      rw [hvz.1] at hgv
      simp [Value.ownBlock] at hgv
    · simp only [Value.slice.injEq] at hv9
      rw [hv9.1] at hgv
      have e9 : g9 = g := by simpa [Value.ownBlock] using hgv
      subst e9
      exact hc5.not_at hh9 (by decide) hg')
  have hne6 : v'.ownBlock ≠ some b := hfin.not_at hb6 (by decide)
  obtain ⟨⟨q0, q1, q2, q3⟩, qf⟩ := cells4 hb6
  have hadd : P.add f t d s = { P with E := P.E ++ [(P.k + 1, f, t, d, s)], k := P.k + 1 } := by unfold PN.add; rw [if_pos hr]
  refine ⟨⟨q1, q2, qf 1, by have := hO6.size; omega, ?_⟩, ?_⟩
  · obtain ⟨sa, sc, hsh, -, -⟩ := hfin.shape
    refine ⟨sa, sc, ?_⟩
    rw [hsh]
    simp
  refine h.turn hN (hO6.put h.Sb) v' (es ++ [⟨P.k + 1, f, t, xa, xc, d, s⟩]) (.slice ca C.length cn) ⟨?_, ?_, ?_, ?_⟩ ?_ ?_ (fun g hg' => .inl (hv3 g hg')) (PN.add_ok h.ok _ _ _ _ hd) (h.cok.same (by rw [hadd]) (by rw [hadd]))
  · rw [hadd, heap_set hb6 1 v']; rfl
  · exact hfin.out (X := fun i => i = b) (Out.set rfl) (by rintro g hg' rfl; exact hne6 hg') (fun e he g hg' e' => by subst e'; exact (hfin.dat e he).not_at hb6 (by decide) hg')
  · rw [hadd, List.map_append, hm.says]; rfl
  · exact hc6.out (X := fun i => i = b) (Out.set rfl) (by rintro g hg' rfl; exact hc6.not_at hb6 (by decide) hg')
  · intro g hg'
    rcases hvv with e | e
    · exact .inl (hv1 g (e ▸ hg'))
    · have hlt := (hfin.lt hg').2
      rw [e] at hg'
      cases hg'
      right
      rw [size_set]
      exact ⟨by omega, hlt⟩
  · intro e he g hg'
    rcases List.mem_append.1 he with he | he
    · exact .inl (hv2 e he g hg')
    · obtain rfl := List.mem_singleton.1 he
      right
      have h1 := (hx5.lt hg').1
      have h2 := (hx5.lt hg').2
      have h3 := hg.size
      rw [size_set]
      omega

set_option maxRecDepth 100000 in
set_option maxHeartbeats 8000000 in
/-- Send. -/
theorem RSend_any {N : Nat} {S : Nat → Prop} {w : World} {b : Nat} {P : PN} {C : List Pr} (h : Rn N S w b P C) (hN : N ≤ w.heap.size) (f t : Int) (a : Option Addr) (d : List UInt8) (cap : Nat) (hd : d.length ≤ 140737488355328) (hsep : ∀ w', Out (fun i => i = b) w w' → Sl w'.heap.size w' (.slice a d.length cap) d) (hk : P.k < 1000000000) (hC : C.length ≤ 100000) :
    Calls Try.prog 16 #[.pointer (some ⟨b, 0, none⟩), .int .i64 f, .int .i64 t, .slice a d.length cap] w fun e w' => e = .returned (.bool (P.snd f t)) ∧ RTh N S w w' b (P.send f t d) C := by
  have HLK : Hid (Calls _ _ _ _ _) := RLinked_any h f t hC
  have hbw := h.inn _ h.Sb
  unfold PN.snd PN.send
  by_cases hl : P.lnk f t = true
  · rw [if_pos hl]
    rw [hl] at HLK ⊢
    by_cases hr : P.E.length < 2000
    · have HR : Hid (∀ w1, Below w.heap.size w w1 → _) := fun w1 (hB : Below w.heap.size w w1) => (h.below hB).cells
      have hk0 := h.ok.k0
      have HH : Hid (Rn N S w b P C) := h
      have HSEP : Hid (∀ w', Out (fun i => i = b) w w' → Sl w'.heap.size w' (.slice a d.length cap) d) := hsep
      have hkw : IntKind.i64.wrap (P.k + 1) = P.k + 1 := by rw [IntKind.wrap_i64]; omega
      rw [show (true && decide (P.E.length < 2000)) = true by simp [hr]]
      clear h hsep hl
      go_enter Try.func16, Try.ntmps16
      go_wp2_with fail
      refine HLK.out.mono ?_
      rintro e w1 ⟨rfl, hB1⟩
      obtain ⟨va, vn, es, ca, cn, hm, hel, -, -, -, -, hv1, hv2, hv3⟩ := HR.out w1 hB1
      obtain ⟨⟨c0, c1, c2, c3⟩, cf⟩ := cells4 hm.blk
      have f2 := cf 2
      have hbw1 : b < w1.heap.size := Nat.lt_of_lt_of_le hbw hB1.size
      have hr' : ¬ (2000 : Int) ≤ (P.E.length : Int) := by omega
      obtain ⟨W2, hW2⟩ : ∃ W2, w1.setCell ⟨b, 2, none⟩ (.int .i64 (P.k + 1)) = W2 := ⟨_, rfl⟩
      have HW2 : Hid (w1.setCell ⟨b, 2, none⟩ (.int .i64 (P.k + 1)) = W2) := hW2
      have hO2 : Out (fun i => i = b) w1 W2 := by rw [← hW2]; exact Out.set rfl
      have hz2 : W2.heap.size = w1.heap.size := by rw [← hW2, size_set]
      have hb2 : W2.heap[b]? = some (.cells #[.int .i64 P.n, .slice va P.E.length vn, .int .i64 (P.k + 1), .slice ca C.length cn] 39 (0, 0)) := by rw [← hW2]; exact heap_set hm.blk 2 _
      have hh1 : Rn N S w1 b P C := HH.out.below hB1
      have hN1 : N ≤ w1.heap.size := Nat.le_trans hN hB1.size
      have hOw2 : Out (fun i => i = b) w W2 := (Out.of_below hB1).trans hO2 (fun _ hi _ => hi)
      have HBY : Hid (∀ n, Calls Try.prog 17 #[.slice a d.length cap] (W2.drewN n) fun e w' => ∃ v', e = .returned v' ∧ Ow W2.heap.size w' v' d ∧ Below W2.heap.size W2 w') := fun n => by
        refine (bytes_any W2.heap.size _ d (W2.drewN n) (HSEP.out W2 hOw2) (Nat.le_refl _) hd).mono ?_
        rintro e w' ⟨v', rfl, q1, q2⟩
        exact ⟨v', rfl, q1, ⟨q2.os, q2.tape, q2.output, q2.size, q2.block⟩⟩
      have HF : Hid (∀ (w3 w6 : World) (n : Nat) (xa : Option Addr) (xc : Nat) (v' : Value), Below W2.heap.size W2 w3 → Ow W2.heap.size w3 (.slice xa d.length xc) d → w6.ownsRow 0 58 5 v' (es.length + 1) (mlCells es ++ mlCells [(⟨P.k + 1, f, t, xa, xc, d, false⟩ : Ml)]) → ((w3.drewN n).alloc (.cells #[.int .i64 (P.k + 1), .int .i64 f, .int .i64 t, .slice xa d.length xc, .bool false] 58)).grownBy w6 (Value.slice va P.E.length vn).ownBlock → (v'.ownBlock = (Value.slice va P.E.length vn).ownBlock ∨ v'.ownBlock = some ((w3.drewN n).alloc (.cells #[.int .i64 (P.k + 1), .int .i64 f, .int .i64 t, .slice xa d.length xc, .bool false] 58)).heap.size) → (w6.cell? ⟨b, 1, none⟩ = some (.slice va P.E.length vn) ∧ w6.cell? ⟨b, 2, none⟩ = some (.int .i64 (P.k + 1)) ∧ w6.frozen? ⟨b, 1, none⟩ = false ∧ b < w6.heap.size ∧ ∃ sa sc, v' = .slice sa (es.length + 1) sc) ∧ RTh N S w (w6.setCell ⟨b, 1, none⟩ v') b (P.add f t d false) C) := fun w3 w6 n xa xc v' hB3 hO3 q1 q2 q3 => by
        obtain ⟨r1, r2⟩ := hh1.added hN1 hm hv1 hv2 hv3 hr hd hO2 hb2 hB3 hO3 q1 q2 q3
        refine ⟨r1, ⟨?_, (Out.of_below hB1).trans r2.out (fun _ hi _ => hi)⟩⟩
        have hgg : ∀ i, grew S w1 (w6.setCell ⟨b, 1, none⟩ v') i → grew S w (w6.setCell ⟨b, 1, none⟩ v') i := fun i hi => hi.imp id (fun h' => ⟨Nat.le_trans hB1.size h'.1, h'.2⟩)
        obtain ⟨v9, es9, vc9, hm9, p1, p2, p3⟩ := r2.q.at_
        exact ⟨⟨v9, es9, vc9, hm9, fun g hg => hgg g (p1 g hg), fun e he g hg => hgg g (p2 e he g hg), fun g hg => hgg g (p3 g hg)⟩, r2.q.ok, r2.q.cok, hgg b r2.q.Sb, fun i hi => hi.elim (fun h' => r2.q.inn i (.inl h')) (fun h' => h'.2), fun i hi => hi.elim (fun h' => r2.q.fr i (.inl h')) (fun h' => by have := h'.1; omega)⟩
      have HRX : Hid (∀ w3 n xa xc, Below W2.heap.size W2 w3 → Ow W2.heap.size w3 (.slice xa d.length xc) d → ((w3.drewN n).alloc (.cells #[.int .i64 (P.k + 1), .int .i64 f, .int .i64 t, .slice xa d.length xc, .bool false] 58)).ownsRow 0 58 5 (.slice va P.E.length vn) es.length (mlCells es) ∧ MlsAt (w3.heap.size + 1) ((w3.drewN n).alloc (.cells #[.int .i64 (P.k + 1), .int .i64 f, .int .i64 t, .slice xa d.length xc, .bool false] 58)) (some ⟨w3.heap.size, 0, none⟩) [(⟨P.k + 1, f, t, xa, xc, d, false⟩ : Ml)] ∧ w3.cell? ⟨b, 1, none⟩ = some (.slice va P.E.length vn) ∧ w3.cell? ⟨b, 2, none⟩ = some (.int .i64 (P.k + 1)) ∧ b < w3.heap.size) := fun w3 n xa xc hB3 hO3 => by
        have hr2 : MlsOw 58 0 W2 (.slice va P.E.length vn) es := hm.row.out hO2 (by rintro g hg rfl; exact hm.row.not_at hm.blk (by decide) hg) (by rintro e he g hg rfl; exact (hm.row.dat e he).not_at hm.blk (by decide) hg)
        obtain ⟨⟨-, e1, e2, -⟩, -⟩ := cells4 ((hB3.block b (by omega)).trans hb2)
        exact ⟨World.ownsRow.alloc (hr2.below hB3).row _, mls_one 58 (w3.drewN n) ⟨P.k + 1, f, t, xa, xc, d, false⟩ w3.heap.size (hO3.sl (Nat.le_refl _)) (Nat.le_refl _), e1, e2, by have := hB3.size; omega⟩
      have hlen9 : es.length + 1 ≤ 1000000000 := by omega
      obtain ⟨⟨-, y1, y2, -⟩, -⟩ := cells4 hb2
      have hbw2 : b < W2.heap.size := by omega
      have HEL : Hid (es.length = P.E.length) := hel
      clear hm hel hv1 hv2 hv3 hO2 hb2 hh1 hN1 hOw2 hW2 HLK HR HSEP HH hB1 cf hz2
      go_wp2_with fail
      rw [HW2.out]
      clear HW2 c0 c1 c2 c3 f2
      go_region_law (first
        | (refine step_append_mls tyR rfl (.tmp 36) (.tmp 46) rfl 0 (w3.heap.size + 1) (.slice va P.E.length vn) (some ⟨w3.heap.size, 0, none⟩) 1 es [(⟨P.k + 1, f, t, xa, xc, d, false⟩ : Ml)] (by simp [Act.eval]) hrow5 (by simp [Act.eval]) hsl5 hlen9 (Nat.zero_le _) ?_; intro v' w6 q1 q2 q3; obtain ⟨⟨n1, n2, nf, nz, sa, sc, hsh⟩, hT⟩ := HF.out w3 w6 0 xa xc v' hB3 hO3 q1 q2 q3; have HT : Hid (RTh _ _ _ _ _ _ _) := hT; clear q1 q2 q3 hT; subst hsh)
        | (go_simp; go_at_call 17; refine (HBY.out 1).mono ?_; rintro e w3 ⟨v3, rfl, hO3, hB3⟩; obtain ⟨xa, xc, hsh3, -, -⟩ := hO3.shape; subst hsh3; obtain ⟨hrow5, hsl5, e1, e2, e3⟩ := HRX.out w3 0 xa xc hB3 hO3)
        | fail)
      all_goals (go_wp2; go_ret; exact ⟨rfl, HT.out⟩)
    · have HT : Hid (∀ w1, Below w.heap.size w w1 → RTh N S w w1 b (P.add f t d false) C) := fun w1 hB => by
        have : P.add f t d false = P := by unfold PN.add; rw [if_neg hr]
        rw [this]; exact h.th hN hB
      have HC : Hid (∀ w1, Below w.heap.size w w1 → _) := fun w1 (hB : Below w.heap.size w w1) => (h.below hB).cells
      rw [show (true && decide (P.E.length < 2000)) = false by simp [hr]]
      have hr' : (2000 : Int) ≤ (P.E.length : Int) := by omega
      clear h hsep hl hr
      go_enter Try.func16, Try.ntmps16
      go_wp2_with fail
      refine HLK.out.mono ?_
      rintro e w1 ⟨rfl, hB1⟩
      obtain ⟨va, vn, es, ca, cn, hm, -⟩ := HC.out w1 hB1
      obtain ⟨⟨c0, c1, c2, c3⟩, -⟩ := cells4 hm.blk
      have HT1 : Hid (RTh _ _ _ _ _ _ _) := HT.out w1 hB1
      have hbw1 : b < w1.heap.size := Nat.lt_of_lt_of_le hbw hB1.size
      clear hm HT HC hB1
      go_wp2
      go_ret
      exact ⟨rfl, HT1.out⟩
  · have hl' : P.lnk f t = false := by simpa using hl
    rw [if_neg hl]
    have HT : Hid (∀ w1, Below w.heap.size w w1 → RTh N S w w1 b P C) := fun w1 hB => h.th hN hB
    rw [hl'] at HLK ⊢
    clear h hsep hl hl'
    go_enter Try.func16, Try.ntmps16
    go_wp2_with fail
    refine HLK.out.mono ?_
    rintro e w1 ⟨rfl, hB1⟩
    have HT1 : Hid (RTh _ _ _ _ _ _ _) := HT.out w1 hB1
    clear hB1 HT
    go_wp2
    go_ret
    exact ⟨by simp, HT1.out⟩
end Go.Proofs.Ytefbfjlmhfmiiaa
