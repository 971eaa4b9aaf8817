/-
  forget: the first entries of a ledger go.
-/
import Derived.Test.YtnahghldlkjleaaGreatDoorDei
import Derived.Test.YtnahghldlkjleaaGreatDoorWC
import Derived.BigRegion
namespace Go.Proofs.YtnahghldlkjleaaGreatDoor
open Go.RowKit
set_option linter.unusedVariables false

def LP.forget (P : LP) (n : Nat) : LP := if n = 0 then P else { P with bi := eI (P.E.getD (n - 1) nilEn), bt := eT (P.E.getD (n - 1) nilEn), E := P.E.drop n, S := P.S.drop n }
theorem LP.forget_bi {P : LP} (h : P.Ok) {n : Nat} (hn : n ≤ P.E.length) : (P.forget n).bi = P.bi + (n : Int) ∧ (P.forget n).E = P.E.drop n ∧ (P.forget n).S = P.S.drop n ∧ (P.forget n).t = P.t ∧ (P.forget n).v = P.v ∧ (P.forget n).c = P.c := by
  unfold LP.forget
  by_cases h0 : n = 0
  · subst h0; simp
  · rw [if_neg h0]
    have := h.ix (n - 1) (by omega)
    refine ⟨?_, rfl, rfl, rfl, rfl, rfl⟩
    show eI _ = _
    rw [this]; omega
theorem LP.forget_li {P : LP} (h : P.Ok) {n : Nat} (hn : n ≤ P.E.length) : (P.forget n).li = P.li := by
  obtain ⟨h1, h2, -⟩ := LP.forget_bi h hn
  unfold LP.li
  rw [h1, h2, List.length_drop]; omega
theorem LP.Ok.forget {P : LP} (h : P.Ok) {n : Nat} (hn : n ≤ P.E.length) : (P.forget n).Ok := by
  by_cases h0 : n = 0
  · have : P.forget n = P := by unfold LP.forget; rw [if_pos h0]
    rw [this]; exact h
  obtain ⟨h1, h2, h3, h4, h5, h6⟩ := LP.forget_bi h hn
  have hl := LP.forget_li h hn
  have hb := h.b0
  have ht := h.top
  unfold Rng at hb
  have hli : P.li = P.bi + (P.E.length : Int) := rfl
  refine ⟨?_, ?_, ?_, ?_, ?_, ?_, ?_, ?_, ?_⟩
  · rw [h2, h3, List.length_drop, List.length_drop, h.len]
  · rw [h1]; unfold Rng; omega
  · unfold LP.forget
    rw [if_neg h0]
    exact h.tms (by omega)
  · rw [hl]; exact ht
  · intro k hk
    rw [h2, List.length_drop] at hk
    rw [h2, h1, show (P.E.drop n).getD k nilEn = P.E.getD (n + k) nilEn by simp [List.getD_eq_getElem?_getD, List.getElem?_drop], h.ix (n + k) (by omega)]
    omega
  · intro e he
    rw [h2] at he
    exact h.ck e (List.mem_of_mem_drop he)
  · rw [h4, h5, h6]; exact h.st
  · have := h.few
    rw [h2, List.length_drop]; omega
  · intro s hs
    rw [h3] at hs
    exact h.sb s (List.mem_of_mem_drop hs)

set_option maxRecDepth 100000 in
set_option maxHeartbeats 2000000 in
theorem forget_any {L : Nat → Prop} {w : World} {b : Nat} {P : LP} (h : Lj L w b P) (n : Nat) (hn : n ≤ P.E.length) :
    Calls Tryz.prog 98 #[.pointer (some ⟨b, 0, none⟩), .int .i64 (n : Int)] w fun e w' => e = .returned (.tuple #[]) ∧ JTh L w w' b (P.forget n) := by
  by_cases h0 : n = 0
  · subst h0
    have HE : Hid (JTh L w w b (P.forget 0)) := by
      have : P.forget 0 = P := by unfold LP.forget; rw [if_pos rfl]
      show JTh _ _ _ _ _
      rw [this]
      exact h.th (Below.refl _ _)
    clear h
    go_enter Tryz.func98, Tryz.ntmps98
    go_wp2
    refine bodyPost_ret (results_none rfl _ _ _) rfl ?_
    exact ⟨rfl, HE.out⟩
  · obtain ⟨va, vc, sa, sc, es, mb, c, hb, ho, hs, hl, hvc, hvm, hsc, hsm, hr, hm, hc, lm, lc, le, ld, ls⟩ := h.cells
    obtain ⟨⟨c0, c1, c2, c3, c4, c5, c6, c7⟩, cf⟩ := cells8 hb
    have far := jfar hb ho hr hm hc
    have hfew := h.ok.few
    have hSl := h.ok.len
    obtain ⟨n', hn'⟩ : ∃ n', n = n' + 1 := ⟨n - 1, by omega⟩
    have hat := EntsOw.at (es := es) (by rw [hl]; exact ho)
    obtain ⟨g, off, rfl, hg, e0, e1, e2, e3, -⟩ := hat.at (i := n') (by omega)
    obtain ⟨s1, s2, -⟩ := ent_says hs n'
    rw [s1] at e0
    rw [s2] at e1
    have hlt := h.inn _ h.Lb
    obtain ⟨en, hen⟩ : ∃ en, es.getD n' nilEnt = en := ⟨_, rfl⟩
    rw [hen] at e2 e3
    have hff : P.forget n = { P with bi := eI (P.E.getD n' nilEn), bt := eT (P.E.getD n' nilEn), E := P.E.drop n, S := P.S.drop n } := by
      unfold LP.forget; rw [if_neg (by omega), show n - 1 = n' by omega]
    obtain ⟨ti, hti⟩ : ∃ ti, eI (P.E.getD n' nilEn) = ti := ⟨_, rfl⟩
    obtain ⟨tt, htt⟩ : ∃ tt, eT (P.E.getD n' nilEn) = tt := ⟨_, rfl⟩
    rw [hti] at e1 hff
    rw [htt] at e0 hff
    have hokf := h.ok.forget hn
    obtain ⟨W0, hW0⟩ : ∃ W0, w.alloc (.cells #[.int .i64 tt, .int .i64 ti, .int .i64 en.k, en.x] 88) = W0 := ⟨_, rfl⟩
    have HW : Hid (_ = W0) := hW0
    have hB0 : Below w.heap.size w W0 := by rw [← hW0]; exact (Below.refl _ w).alloc (Nat.le_refl _) _
    have hx0 : W0.heap[w.heap.size]? = some (.cells #[.int .i64 tt, .int .i64 ti, .int .i64 en.k, en.x] 88 (0, 0)) := by rw [← hW0]; exact heap_alloc_new w _
    obtain ⟨⟨b0, b1, -, -⟩, -⟩ := cells4' hx0
    have hb0 := bel_heap hB0 hb
    obtain ⟨⟨d0, d1, d2, d3, d4, d5, d6, d7⟩, df⟩ := cells8 hb0
    have hne : ¬ w.heap.size = b := by omega
    have hne' : ¬ b = w.heap.size := by omega
    -- behind the two stores
    have HQ : Hid (∀ V, V.heap[b]? = some (.cells #[.int .i64 P.t, .int .i64 P.v, .int .i64 P.c, .int .i64 ti, .int .i64 tt, .slice (some ⟨g, off, none⟩) P.E.length vc, .slice sa P.E.length sc, .map (some mb)] 132 (0, 0)) → Out (fun i => i = b) w V →
        V.cell? ⟨b, 5, none⟩ = some (.slice (some ⟨g, off, none⟩) P.E.length vc) ∧ Calls Tryz.prog 141 #[.slice (some ⟨g, off, none⟩) P.E.length vc, .int .i64 0, .int .i64 (n : Int)] V fun e w1 => e = .returned (.slice (some ⟨g, off, none⟩) (P.E.length - n) vc) ∧ w1.cell? ⟨b, 5, none⟩ = some (.slice (some ⟨g, off, none⟩) P.E.length vc) ∧ w1.frozen? ⟨b, 5, none⟩ = false ∧ (w1.setCell ⟨b, 5, none⟩ (.slice (some ⟨g, off, none⟩) (P.E.length - n) vc)).cell? ⟨b, 6, none⟩ = some (.slice sa P.E.length sc) ∧ Hid (
          Calls Tryz.prog 142 #[.slice sa P.E.length sc, .int .i64 0, .int .i64 (n : Int)] (w1.setCell ⟨b, 5, none⟩ (.slice (some ⟨g, off, none⟩) (P.E.length - n) vc)) fun e w3 => e = .returned (.slice sa (P.E.length - n) sc) ∧ w3.cell? ⟨b, 6, none⟩ = some (.slice sa P.E.length sc) ∧ w3.frozen? ⟨b, 6, none⟩ = false ∧ Hid (JTh L w (w3.setCell ⟨b, 6, none⟩ (.slice sa (P.E.length - n) sc)) b (P.forget n)))) := by
      intro V hV hOV
      have hoV : EntsOw 0 V (.slice (some ⟨g, off, none⟩) P.E.length vc) es := ho.out hOV (fun g' hg e => far.be (by rw [← e]; exact hg)) (fun e he g' hg e2 => far.d e he g' hg (.inl e2))
      have hrV : Ro RI 0 V (.slice sa P.E.length sc) P.S := hr.out hOV (fun g' hg e => far.bs (by rw [← e]; exact hg))
      refine ⟨(cells8 hV).1.2.2.2.2.2.1, ?_⟩
      have hD := delete_front (some ⟨g, off, none⟩) vc n es V (by rw [hl]; exact hoV) (by omega) (by omega) (by omega)
      rw [hl] at hD
      refine hD.mono ?_
      rintro e w1 ⟨rfl, o1, o2, o3⟩
      have hb1 : w1.heap[b]? = some (.cells #[.int .i64 P.t, .int .i64 P.v, .int .i64 P.c, .int .i64 ti, .int .i64 tt, .slice (some ⟨g, off, none⟩) P.E.length vc, .slice sa P.E.length sc, .map (some mb)] 132 (0, 0)) := (o2.block b (Array.getElem?_eq_some_iff.1 hV).1 far.be).trans hV
      have hb2 := set8_56 hb1 (.slice (some ⟨g, off, none⟩) (P.E.length - n) vc)
      refine ⟨rfl, (cells8 hb1).1.2.2.2.2.2.1, (cells8 hb1).2 5, (cells8 hb2).1.2.2.2.2.2.2.1, ?_⟩
      show Calls _ _ _ _ _
      obtain ⟨W2, hW2⟩ : ∃ W2, W2 = w1.setCell ⟨b, 5, none⟩ (.slice (some ⟨g, off, none⟩) (P.E.length - n) vc) := ⟨_, rfl⟩
      rw [← hW2] at hb2
      rw [← hW2]
      have oE : Out (fun i => i = b ∨ (Value.slice (some ⟨g, off, none⟩) P.E.length vc).ownBlock = some i) w W2 := by
        rw [hW2]
        exact ((hOV.mono (fun i hi => .inl hi)).trans (o2.mono (Y := fun i => i = b ∨ (Value.slice (some ⟨g, off, none⟩) P.E.length vc).ownBlock = some i) (fun i hi => .inr hi)) (fun _ hi _ => hi)).put (.inl rfl)
      have hr2 : Ro RI 0 W2 (.slice sa P.E.length sc) P.S := hr.out oE (fun g' hg hi => hi.elim (fun e => far.bs (by rw [← e]; exact hg)) (fun e => far.es g' e hg))
      have o12 : EntsOw 0 W2 (.slice (some ⟨g, off, none⟩) (P.E.length - n) vc) (es.drop n) := by
        rw [hW2]
        exact o1.out (X := fun i => i = b) (Out.set rfl) (fun g' hg e => far.be (by rw [← own_len _ (P.E.length - n), ← e]; exact hg)) (fun e he g' hg e2 => far.d e (List.mem_of_mem_drop he) g' hg (.inl e2))
      have hDI := deleteI_front sa sc n P.S W2 (by rw [hSl]; exact hr2) (by omega) (by omega) (by omega)
      rw [hSl] at hDI
      refine hDI.mono ?_
      rintro e w3 ⟨rfl, q1, q2, q3⟩
      have hb3 := (q2.block b (Array.getElem?_eq_some_iff.1 hb2).1 far.bs).trans hb2
      refine ⟨rfl, (cells8 hb3).1.2.2.2.2.2.2.1, (cells8 hb3).2 6, ?_⟩
      have hb4 := set8_6 hb3 (.slice sa (P.E.length - n) sc)
      have oS : Out (fun i => i = b ∨ (Value.slice sa P.E.length sc).ownBlock = some i) W2 (w3.setCell ⟨b, 6, none⟩ (.slice sa (P.E.length - n) sc)) := (q2.mono (fun i hi => .inr hi)).put (.inl rfl)
      have oo : Out (Jx b (.slice (some ⟨g, off, none⟩) P.E.length vc) (.slice sa P.E.length sc)) w (w3.setCell ⟨b, 6, none⟩ (.slice sa (P.E.length - n) sc)) :=
        (oE.mono (Y := Jx b (.slice (some ⟨g, off, none⟩) P.E.length vc) (.slice sa P.E.length sc)) (fun i hi => hi.elim .inl (fun h => .inr (.inl h)))).trans (oS.mono (Y := Jx b (.slice (some ⟨g, off, none⟩) P.E.length vc) (.slice sa P.E.length sc)) (fun i hi => hi.elim .inl (fun h => .inr (.inr h)))) (fun _ hi _ => hi)
      have hes : (es.drop n).map Ent.says = P.E.drop n := by rw [List.map_drop, hs]
      rw [hff] at hokf ⊢
      refine Lj.turn (P' := _) h hm hc lm lc far.m far.c far.b5 le ls oo hb4 (es' := es.drop n) ?_ hes ?_ (fun g' hg => .inl (le g' (by rw [← own_len _ (P.E.length - n)]; exact hg))) (fun e he g' hg => .inl (ld e (List.mem_of_mem_drop he) g' hg)) (fun g' hg => .inl (ls g' (by rw [← own_len _ (P.E.length - n)]; exact hg))) hokf
      · exact o12.out oS (fun g' hg hi => by rw [own_len _ _ P.E.length] at hg; exact hi.elim (fun e => far.be (by rw [← e]; exact hg)) (fun e => far.es g' hg e)) (fun e he g' hg hi => far.d e (List.mem_of_mem_drop he) g' hg (hi.elim .inl (fun h => .inr (.inr h))))
      · exact q1.out (X := fun i => i = b) (Out.set rfl) (fun g' hg e => far.bs (by rw [← own_len _ (P.E.length - n), ← e]; exact hg))
    have HO1 : Hid (∀ V, Out (fun i => i = b) W0 V → Out (fun i => i = b) w V) := fun V hV => (Out.of_below hB0).trans hV (fun _ hi _ => hi)
    have HS34 : Hid (∀ V, V.heap = W0.heap → Out (fun i => i = b) W0 V → ((V.setCell ⟨b, 3, none⟩ (.int .i64 ti)).setCell ⟨b, 4, none⟩ (.int .i64 tt)).heap[b]? = some (.cells #[.int .i64 P.t, .int .i64 P.v, .int .i64 P.c, .int .i64 ti, .int .i64 tt, .slice (some ⟨g, off, none⟩) P.E.length vc, .slice sa P.E.length sc, .map (some mb)] 132 (0, 0)) ∧ Out (fun i => i = b) w ((V.setCell ⟨b, 3, none⟩ (.int .i64 ti)).setCell ⟨b, 4, none⟩ (.int .i64 tt)) ∧
        ((V.setCell ⟨b, 4, none⟩ (.int .i64 tt)).setCell ⟨b, 3, none⟩ (.int .i64 ti)).heap[b]? = some (.cells #[.int .i64 P.t, .int .i64 P.v, .int .i64 P.c, .int .i64 ti, .int .i64 tt, .slice (some ⟨g, off, none⟩) P.E.length vc, .slice sa P.E.length sc, .map (some mb)] 132 (0, 0)) ∧ Out (fun i => i = b) w ((V.setCell ⟨b, 4, none⟩ (.int .i64 tt)).setCell ⟨b, 3, none⟩ (.int .i64 ti))) := fun V hV hOV => by
      have hbV := hb0
      rw [← hV] at hbV
      refine ⟨set8_34 hbV _ _, HO1.out _ ((hOV.put rfl).put rfl), ?_, HO1.out _ ((hOV.put rfl).put rfl)⟩
      rw [heap_set (heap_set hbV 4 (.int .i64 tt)) 3 (.int .i64 ti)]; rfl
    have hwn : IntKind.i64.wrap ((n : Int) - 1) = (n' : Int) := by rw [IntKind.wrap_i64]; omega
    have i0 : (0 : Int) ≤ (n' : Int) := by omega
    have i1 : (n' : Int) < (P.E.length : Int) := by omega
    have hnz : ((n : Int) == 0) = false := by simp; omega
    unfold Ent.x at e3 hx0
    unfold Ent.x at HW
    clear hn' h hb ho hs hl hvc hvm hsc hsm hr hm hc lm lc le ld ls far hfew hSl hat hen hff hti htt hokf hW0 hB0 hx0 hb0 hn h0 s1 s2 HO1 cf
    generalize P.forget n = PF at *
    generalize P.E.length = m at *
    go_enter Tryz.func98, Tryz.ntmps98
    go_upto_region 2 with fail
    rw [HW.out]
    go_cut [] (fun wx => Hid (wx.heap[b]? = some (.cells #[.int .i64 P.t, .int .i64 P.v, .int .i64 P.c, .int .i64 ti, .int .i64 tt, .slice (some ⟨g, off, none⟩) m vc, .slice sa m sc, .map (some mb)] 132 (0, 0)) ∧ Out (fun i => i = b) w wx))
    case first =>
      clear HQ
      go_region
      all_goals (try go_wp2)
      all_goals go_meet
      all_goals exact ⟨(HS34.out W0 rfl (Out.refl _ _)).1, ((HS34.out W0 rfl (Out.refl _ _)).2.1).trans (Out.drew (X := fun i => i = b) _ 1) (fun _ h _ => h)⟩
    case rest =>
      have HC : Hid _ := hcut
      obtain ⟨x5, hcl⟩ := HQ.out wc HC.out.1 HC.out.2
      have HCL : Hid _ := hcl
      clear hcl hcut HC HQ HS34
      go_wp2_with (first
        | (go_at_call 141; refine Calls.mono HCL.out ?_; rintro e w1 ⟨rfl, k5, f5, k6', HN⟩)
        | (go_at_call 142; refine Calls.mono HN.out ?_; rintro e w3 ⟨rfl, k6, f6, HJ⟩)
        | fail)
      go_end0
      exact ⟨rfl, HJ.out⟩
end Go.Proofs.YtnahghldlkjleaaGreatDoor
