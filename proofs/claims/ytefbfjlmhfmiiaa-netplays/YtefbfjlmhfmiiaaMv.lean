/-
  Move.
-/
import Derived.Test.YtefbfjlmhfmiiaaIs
namespace Go.Proofs.Ytefbfjlmhfmiiaa
open Go.RowKit
set_option linter.unusedVariables false

theorem insert_any (g cap V i : Nat) (es : List Ml) (e : Ml) (w : World) (h : MlsOw 41 0 w (.slice (some ⟨g, 0, none⟩) es.length cap) es) (hn : es.length ≤ 100000) (hi : i ≤ es.length) (hroom : es.length + 1 ≤ cap) (hV : w.heap[V]? = some (.cells #[.int .i64 e.n, .int .i64 e.f, .int .i64 e.t, e.x, .bool e.s] 41 (0, 0))) (hVg : V ≠ g) (hd : Ow 0 w e.x e.d) :
    Calls Try.prog 42 #[.slice (some ⟨g, 0, none⟩) es.length cap, .int .i64 (i : Int), .slice (some ⟨V, 0, none⟩) 1 1] w fun r w' => ∃ v', r = .returned v' ∧ MlsOw 41 0 w' v' (putAt es i e) ∧ Out (fun j => j = g) w w' ∧ (v'.ownBlock = some g ∨ v'.ownBlock = some w.heap.size) := by
  by_cases hie : i = es.length
  · subst hie
    have hVA : MlsAt w.heap.size w (some ⟨V, 0, none⟩) [e] := by
      refine .inr ⟨V, 0, rfl, (Array.getElem?_eq_some_iff.1 hV).1, fun j hj => ?_⟩
      have : j = 0 := by simpa using hj
      subst this
      obtain ⟨⟨x0, x1, x2, x3, x4⟩, -⟩ := cells5 hV
      exact ⟨x0, x1, x2, x3, x4, hd.sl (Nat.le_refl _)⟩
    refine (insert_end (some ⟨g, 0, none⟩) cap V 1 es e w h hn hVA hd).mono ?_
    rintro r w' ⟨v', rfl, q1, q2, q3⟩
    refine ⟨v', rfl, ?_, q2.mono (fun j hj => by simpa [Value.ownBlock] using hj.symm), q3⟩
    unfold putAt
    rw [List.take_length, List.drop_length]
    exact q1
  · refine (insert_in g cap V 1 i es e w h hn (by omega) hroom hV hVg hd).mono ?_
    rintro r w' ⟨rfl, q1, q2, q3⟩
    exact ⟨_, rfl, q1, q2, .inl rfl⟩

def PN.mov (P : PN) (i t : Int) : Bool := P.at i && P.at t
def moveE (E : List Ma) (i t : Nat) : List Ma := (E.eraseIdx i).take t ++ E.getD i nilMa :: (E.eraseIdx i).drop t
def PN.move (P : PN) (i t : Int) : PN := if P.mov i t = true then { P with E := moveE P.E i.toNat t.toNat } else P
theorem erase_perm (E : List Ma) {i : Nat} (hi : i < E.length) : (E.getD i nilMa :: E.eraseIdx i).Perm E := by
  induction E generalizing i with
  | nil => simp at hi
  | cons x r ih =>
    cases i with
    | zero => simp
    | succ i =>
      simp only [List.getD_cons_succ, List.eraseIdx_cons_succ]
      exact (List.Perm.swap x _ _).trans ((ih (by simpa using hi)).cons x)
theorem moveE_perm (E : List Ma) {i : Nat} (t : Nat) (hi : i < E.length) : (moveE E i t).Perm E := by
  unfold moveE
  have h1 := List.perm_middle (a := E.getD i nilMa) (l₁ := (E.eraseIdx i).take t) (l₂ := (E.eraseIdx i).drop t)
  rw [List.take_append_drop] at h1
  refine h1.trans ?_
  exact erase_perm E hi
theorem PN.move_ok {P : PN} (h : P.Ok) (i t : Int) : (P.move i t).Ok := by
  unfold PN.move
  split
  · rename_i hm
    have ha : P.at i = true := by simp [PN.mov] at hm; exact hm.1
    obtain ⟨i0, i1, i2⟩ := PN.at_of ha
    have hp := moveE_perm P.E t.toNat i1
    exact ⟨h.n1, h.n7, h.len, h.sym, by rw [show ({ P with E := moveE P.E i.toNat t.toNat } : PN).E = moveE P.E i.toNat t.toNat from rfl, hp.length_eq]; exact h.row, h.k0, fun e he => h.dl e (hp.mem_iff.1 he)⟩
  · exact h

set_option maxRecDepth 100000 in
set_option maxHeartbeats 4000000 in
/-- Move, refused. -/
theorem Move_no {N : Nat} {S : Nat → Prop} {w : World} {b : Nat} {P : PN} (h : Nt N S w b P) (hN : N ≤ w.heap.size) (i t : Int) (hm : P.mov i t = false) :
    Calls Try.prog 22 #[.pointer (some ⟨b, 0, none⟩), .int .i64 i, .int .i64 t] w fun r w' => r = .returned (.bool false) ∧ NTh N S w w' b (P.move i t) := by
  have HA1 : Hid (Calls _ _ _ _ _) := at_any h i
  have HA2 : Hid (Calls _ _ _ _ _) := at_any h t
  have HT : Hid (NTh N S w w b (P.move i t)) := by
    show NTh _ _ _ _ _ _
    unfold PN.move
    rw [if_neg (by rw [hm]; simp)]
    exact h.th hN (Below.refl _ _)
  unfold PN.mov at hm
  clear h
  cases h1 : P.at i with
  | false =>
    rw [h1] at HA1
    clear h1 hm
    go_enter Try.func22, Try.ntmps22
    go_wp2_with fail
    refine HA1.out.mono ?_
    rintro r w1 ⟨rfl, hw⟩
    subst w1
    go_wp2
    go_ret
    exact ⟨rfl, HT.out⟩
  | true =>
    rw [h1] at HA1 hm
    have h2 : P.at t = false := by simpa using hm
    rw [h2] at HA2
    clear h1 hm h2
    go_enter Try.func22, Try.ntmps22
    go_wp2_with fail
    refine HA1.out.mono ?_
    rintro r w1 ⟨rfl, hw⟩
    subst w1
    go_wp2_with fail
    refine HA2.out.mono ?_
    rintro r w1 ⟨rfl, hw⟩
    subst w1
    go_wp2
    go_ret
    exact ⟨rfl, HT.out⟩

set_option maxRecDepth 100000 in
set_option maxHeartbeats 4000000 in
/-- Move, done. -/
theorem Move_ok {N : Nat} {S : Nat → Prop} {w : World} {b : Nat} {P : PN} (h : Nt N S w b P) (hN : N ≤ w.heap.size) (i t : Int) (hm : P.mov i t = true) :
    Calls Try.prog 22 #[.pointer (some ⟨b, 0, none⟩), .int .i64 i, .int .i64 t] w fun r w' => r = .returned (.bool true) ∧ NTh N S w w' b (P.move i t) := by
  have HA1 : Hid (Calls _ _ _ _ _) := at_any h i
  have HA2 : Hid (Calls _ _ _ _ _) := at_any h t
  have HTK : Hid (Calls _ _ _ _ _) := Take_any h hN i
  have hmm := hm
  unfold PN.mov at hm
  simp only [Bool.and_eq_true] at hm
  obtain ⟨h1, h2⟩ := hm
  rw [h1] at HA1
  rw [h2] at HA2
  obtain ⟨i0, i1, i2⟩ := PN.at_of h1
  obtain ⟨t0, t1, t2⟩ := PN.at_of h2
  obtain ⟨k, rfl⟩ : ∃ k : Nat, i = (k : Int) := ⟨i.toNat, i2.symm⟩
  obtain ⟨q, rfl⟩ : ∃ q : Nat, t = (q : Int) := ⟨t.toNat, t2.symm⟩
  simp only [Int.toNat_natCast] at i1 t1
  have HST : Hid (Nt N S w b P) := h
  have HI1 : Hid (k < P.E.length ∧ q < P.E.length) := ⟨i1, t1⟩
  have HMM : Hid (P.mov (k : Int) (q : Int) = true ∧ P.at (k : Int) = true) := ⟨hmm, h1⟩
  clear h h1 h2 i2 t2 i0 t0 i1 t1 hmm
  go_enter Try.func22, Try.ntmps22
  go_wp2_with fail
  refine HA1.out.mono ?_
  rintro r w1 ⟨rfl, hw⟩
  subst w1
  go_wp2_with fail
  refine HA2.out.mono ?_
  rintro r w1 ⟨rfl, hw⟩
  subst w1
  go_wp2_with fail
  refine HTK.out.mono ?_
  rintro r w2 (⟨ha, -, -⟩ | ⟨-, e, rfl, hsy, hT, hO2, hfe, g0, vc, es', hM, hroom, hvm, hgS, hS2, hap⟩)
  · exact absurd HMM.out.2 (by rw [ha]; simp)
  have htk : P.take (k : Int) = { P with E := P.E.eraseIdx k } := by unfold PN.take; rw [if_pos HMM.out.2]; rfl
  have hlen : es'.length + 1 = P.E.length := by
    have h1 := congrArg List.length hM.says
    rw [List.length_map, htk] at h1
    have h2 : (P.E.eraseIdx k).length = P.E.length - 1 := by rw [List.length_eraseIdx, if_pos HI1.out.1]
    have h3 := HI1.out.1
    rw [show ({ P with E := P.E.eraseIdx k } : PN).E = P.E.eraseIdx k from rfl, h2] at h1
    omega
  have hql : q ≤ es'.length := by have := HI1.out.2; omega
  have hl2 : es'.length ≤ 100000 := by have := HST.out.ok.row; omega
  have hSlt := HST.out.inn
  have hw2 := hT.out.size
  have hb2 := hM.blk
  have hbw : b < w.heap.size := hSlt _ HST.out.Sb
  have hgw : g0 < w.heap.size := hSlt _ hgS
  have hgb : g0 ≠ b := by rintro rfl; exact hM.row.not_at hM.blk (by decide) rfl
  obtain ⟨W3, hW3⟩ : ∃ W3, w2.alloc (.cells #[.int .i64 e.n, .int .i64 e.f, .int .i64 e.t, .slice e.a e.d.length e.c, .bool e.s] 41) = W3 := ⟨_, rfl⟩
  have HW3 : Hid (w2.alloc (.cells #[.int .i64 e.n, .int .i64 e.f, .int .i64 e.t, .slice e.a e.d.length e.c, .bool e.s] 41) = W3) := hW3
  have hB3 : Below w2.heap.size w2 W3 := by rw [← hW3]; exact (Below.refl _ w2).alloc (Nat.le_refl _) _
  have hX3 : W3.heap[w2.heap.size]? = some (.cells #[.int .i64 e.n, .int .i64 e.f, .int .i64 e.t, .slice e.a e.d.length e.c, .bool e.s] 41 (0, 0)) := by rw [← hW3]; exact heap_alloc_new w2 _
  have hz3 : W3.heap.size = w2.heap.size + 1 := by rw [← hW3]; simp
  have hb3 : W3.heap[b]? = some (.cells (netCells (P.take (k : Int)).n (P.take (k : Int)).L (.slice (some ⟨g0, 0, none⟩) es'.length vc) (P.take (k : Int)).k) 57 (0, 0)) := (hB3.block b (by omega)).trans hb2
  have HLN : Hid ((P.take (k : Int)).L.length = 64) := by show _ = _; rw [htk]; exact HST.out.ok.len
  have hm3 := hM.row.below hB3
  have hd3 := hO2.below hB3 (Nat.le_refl _)
  have HINS : Hid (∀ n, Calls Try.prog 42 #[.slice (some ⟨g0, 0, none⟩) es'.length vc, .int .i64 (q : Int), .slice (some ⟨W3.heap.size, 0, none⟩) 1 1] ((W3.alloc (.cells #[.int .i64 e.n, .int .i64 e.f, .int .i64 e.t, .slice e.a e.d.length e.c, .bool e.s] 41)).drewN n) fun r w' => ∃ v', r = .returned v' ∧ MlsOw 41 0 w' v' (putAt es' q e) ∧ Out (fun j => j = g0) ((W3.alloc (.cells #[.int .i64 e.n, .int .i64 e.f, .int .i64 e.t, .slice e.a e.d.length e.c, .bool e.s] 41)).drewN n) w' ∧ (v'.ownBlock = some g0 ∨ v'.ownBlock = some ((W3.alloc (.cells #[.int .i64 e.n, .int .i64 e.f, .int .i64 e.t, .slice e.a e.d.length e.c, .bool e.s] 41)).drewN n).heap.size)) := fun n => by
    have hB4 : Below W3.heap.size W3 ((W3.alloc (.cells #[.int .i64 e.n, .int .i64 e.f, .int .i64 e.t, .slice e.a e.d.length e.c, .bool e.s] 41)).drewN n) := below_drewN ((Below.refl _ W3).alloc (Nat.le_refl _) _) n
    exact insert_any g0 vc W3.heap.size q es' e _ (hm3.below hB4) hl2 hql hroom (heap_alloc_new W3 _) (by omega) (hd3.below hB4 (Nat.le_refl _))
  have HF : Hid (∀ n w5 v', MlsOw 41 0 w5 v' (putAt es' q e) → Out (fun j => j = g0) ((W3.alloc (.cells #[.int .i64 e.n, .int .i64 e.f, .int .i64 e.t, .slice e.a e.d.length e.c, .bool e.s] 41)).drewN n) w5 → (v'.ownBlock = some g0 ∨ v'.ownBlock = some ((W3.alloc (.cells #[.int .i64 e.n, .int .i64 e.f, .int .i64 e.t, .slice e.a e.d.length e.c, .bool e.s] 41)).drewN n).heap.size) → (w5.cell? ⟨b, 65, none⟩ = some (.slice (some ⟨g0, 0, none⟩) es'.length vc) ∧ w5.frozen? ⟨b, 65, none⟩ = false ∧ b < w5.heap.size ∧ ∃ sa sc, v' = .slice sa (es'.length + 1) sc) ∧ NTh N S w (w5.setCell ⟨b, 65, none⟩ v') b (P.move (k : Int) (q : Int))) := fun n w5 v' hr5 hO5 hv5 => by
    have hB4 : Below W3.heap.size W3 ((W3.alloc (.cells #[.int .i64 e.n, .int .i64 e.f, .int .i64 e.t, .slice e.a e.d.length e.c, .bool e.s] 41)).drewN n) := below_drewN ((Below.refl _ W3).alloc (Nat.le_refl _) _) n
    have hz4 := hB4.size
    have hz5 := hO5.size
    have hb5 := (hO5.block b (by omega) (fun e9 => hgb (show b = g0 from e9).symm)).trans ((hB4.block b (by omega)).trans hb3)
    obtain ⟨-, -, p65, -, pf⟩ := cell_net hb5 HLN.out
    have hne5 : v'.ownBlock ≠ some b := hr5.not_at hb5 (by decide)
    have hOS : Out S w w5 := (hT.out.trans (Y := fun _ => False) (Out.of_below (hB3.trans (hB4.mono (by omega)))) (fun _ hf _ => hf.elim)).trans hO5 (fun j hj _ => by rw [hj]; exact hgS)
    refine ⟨⟨p65, pf 65, by omega, ?_⟩, ?_⟩
    · obtain ⟨sa, sc, hsh, -, -⟩ := hr5.shape
      rw [putAt_len] at hsh
      exact ⟨sa, sc, hsh⟩
    have hmv : P.move (k : Int) (q : Int) = { P with E := moveE P.E k q } := by unfold PN.move; rw [if_pos HMM.out.1]; rfl
    refine HST.out.turn hN (hOS.put HST.out.Sb) v' (putAt es' q e) ⟨?_, ?_, ?_, ?_⟩ ?_ ?_ (PN.move_ok HST.out.ok _ _)
    · have := heap_set hb5 65 v'
      rw [netCells_setRow _ _ _ _ _ HLN.out] at this
      rw [this, hmv, htk]
    · exact hr5.out (X := fun j => j = b) (Out.set rfl) (by rintro g hg rfl; exact hne5 hg) (fun f hf g hg e9 => by subst e9; exact (hr5.dat f hf).not_at hb5 (by decide) hg)
    · rw [putAt_says hM.says, hmv, htk, hsy]
      rfl
    · exact pairwise_putAt hM.apt hap
    · intro g hg
      rcases hv5 with e9 | e9
      · rw [e9] at hg; cases hg; exact .inl hgS
      · have hg5 := (hr5.lt hg).2
        rw [e9] at hg
        cases hg
        right
        rw [size_set]
        refine ⟨?_, hg5⟩
        show w.heap.size ≤ (W3.alloc _).heap.size
        rw [World.size_alloc]
        omega
    · intro f hf g hg
      rcases mem_putAt hf with rfl | hf
      · exact .inl (hfe g hg).1
      · exact .inl (hS2 f hf g hg)
  obtain ⟨⟨x0, x1, x2, x3, x4⟩, -⟩ := cells5 hX3
  obtain ⟨-, -, p65, -, pf⟩ := cell_net hb3 HLN.out
  have hbw3 : b < W3.heap.size := by omega
  have hw23 : w2.heap.size < W3.heap.size := by omega
  have hbB : ¬ b = w2.heap.size := by omega
  clear HTK HA1 HA2 hsy hT hO2 hfe hM hroom hvm hS2 hap htk hlen hql hl2 hSlt hb2 hX3 hb3 hm3 hd3 hB3 hW3 HST hz3
  generalize es'.length = m at *
  go_wp2_with fail
  rw [HW3.out]
  go_region_law (first
    | (go_simp; go_at_call 42; refine (HINS.out 1).mono ?_; rintro r w5 ⟨v', rfl, q1, q2, q3⟩; obtain ⟨⟨n2, nf, nz, sa, sc, hsh⟩, hT⟩ := HF.out 1 w5 v' q1 q2 q3; have HT : Hid (NTh _ _ _ _ _ _) := hT; clear q1 q2 q3 hT; subst hsh)
    | fail)
  all_goals (go_wp2; go_ret; exact ⟨rfl, HT.out⟩)

/-- Move. -/
theorem Move_any {N : Nat} {S : Nat → Prop} {w : World} {b : Nat} {P : PN} (h : Nt N S w b P) (hN : N ≤ w.heap.size) (i t : Int) :
    Calls Try.prog 22 #[.pointer (some ⟨b, 0, none⟩), .int .i64 i, .int .i64 t] w fun r w' => r = .returned (.bool (P.mov i t)) ∧ NTh N S w w' b (P.move i t) := by
  cases hm : P.mov i t
  · exact Move_no h hN i t hm
  · exact Move_ok h hN i t hm
end Go.Proofs.Ytefbfjlmhfmiiaa
