/-
  Compact.
-/
import Derived.Test.YteekpfgjpdopmaaSt
namespace Go.Proofs.Yteekpfgjpdopmaa
open Go.RowKit
set_option linter.unusedVariables false

def cmE (P : PL) (i : Int) : Nat := if i < P.bi then 14 else if P.a < i then 1 else 0
def cmP (P : PL) (i : Int) : PL := if cmE P i = 0 then ⟨i, P.tm i, P.E.drop (i - P.bi).toNat, P.h, P.s, P.c, P.g, P.a⟩ else P
theorem cm_tm {P : PL} {i j : Int} (h1 : P.bi ≤ i) (h2 : i ≤ j) : (⟨i, P.tm i, P.E.drop (i - P.bi).toNat, P.h, P.s, P.c, P.g, P.a⟩ : PL).tm j = P.tm j := by
  unfold PL.tm
  by_cases hj : j = i
  · simp [hj]
  · simp only
    rw [if_neg hj, if_neg (by omega)]
    simp only [List.getD_eq_getElem?_getD, List.getElem?_drop]
    congr 3
    omega
theorem cm_ok {P : PL} (h : P.Ok) {i : Int} (h1 : P.bi ≤ i) (h2 : i ≤ P.a) : (⟨i, P.tm i, P.E.drop (i - P.bi).toNat, P.h, P.s, P.c, P.g, P.a⟩ : PL).Ok := by
  have hal : i ≤ P.li := by have := h.ag; have := h.gc; have := h.cl; omega
  have hli : (⟨i, P.tm i, P.E.drop (i - P.bi).toNat, P.h, P.s, P.c, P.g, P.a⟩ : PL).li = P.li := by
    unfold PL.li at hal ⊢
    simp
    omega
  have hlen : (P.E.drop (i - P.bi).toNat).length = P.E.length - (i - P.bi).toNat := by simp
  refine ⟨?_, fun e he => h.ck e (List.mem_of_mem_drop he), ?_, ?_, ?_, h2, h.ag, h.gc, by rw [hli]; exact h.cl, h.gs, h.sh, by rw [hli]; exact h.hl⟩
  · by_cases hi : i = P.bi
    · subst hi
      show (P.bi = 0 ∧ P.tm P.bi = 0) ∨ _
      rw [PL.tm_base]
      exact h.base
    · obtain ⟨k, hk⟩ : ∃ k : Nat, i = P.bi + 1 + (k : Int) := ⟨(i - P.bi - 1).toNat, by omega⟩
      have hkl : k < P.E.length := by unfold PL.li at hal; omega
      have := h.ent hkl
      have h0 := h.b0
      right
      show 1 ≤ i ∧ i ≤ 4611686018427387904 ∧ 1 ≤ P.tm i ∧ P.tm i ≤ 4611686018427387904
      rw [hk, PL.tm_ent]
      omega
  · intro k hk
    simp at hk
    show eI ((P.E.drop (i - P.bi).toNat).getD k nilEn) = i + 1 + (k : Int)
    have e : (P.E.drop (i - P.bi).toNat).getD k nilEn = P.E.getD ((i - P.bi).toNat + k) nilEn := by simp [List.getD_eq_getElem?_getD, List.getElem?_drop]
    rw [e, h.ix _ (by omega)]
    omega
  · intro k hk
    simp at hk
    show (⟨i, P.tm i, P.E.drop (i - P.bi).toNat, P.h, P.s, P.c, P.g, P.a⟩ : PL).tm (i + (k : Int)) ≤ (⟨i, P.tm i, P.E.drop (i - P.bi).toNat, P.h, P.s, P.c, P.g, P.a⟩ : PL).tm (i + (k : Int) + 1)
    rw [cm_tm h1 (by omega), cm_tm h1 (by omega)]
    have := h.up ((i - P.bi).toNat + k) (by omega)
    have e : P.bi + (((i - P.bi).toNat + k : Nat) : Int) = i + (k : Int) := by omega
    rw [e] at this
    exact this
  · have := h.len
    show (P.E.drop (i - P.bi).toNat).length ≤ 10000
    omega

set_option maxRecDepth 100000 in
set_option maxHeartbeats 4000000 in
/-- Compact. -/
theorem Compact_any {N : Nat} {S : Nat → Prop} {w : World} {b : Nat} {P : PL} (h : Lg N S w b P) (hN : N ≤ w.heap.size) (i : Int) :
    Calls Try.prog 34 #[.pointer (some ⟨b, 0, none⟩), .int .i64 i] w fun e w' => e = .returned (.int .i64 (cmE P i : Int)) ∧ LTh N S w w' b (cmP P i) := by
  obtain ⟨va, vc, es, hb, ho, hs, hl, hvc, hvm, hS1, hS2⟩ := h.cells
  have hbw := h.inn _ h.Sb
  by_cases a1 : i < P.bi
  · have e1 : cmE P i = 14 := by unfold cmE; rw [if_pos a1]
    have HT : Hid (∀ w2, Below w.heap.size w w2 → LTh N S w w2 b (cmP P i)) := fun w2 h2 => by unfold cmP; rw [e1, if_neg (by decide)]; exact h.th hN h2
    rw [e1]
    obtain ⟨⟨m0, m1, m2, m3, m4, m5, m6, m7⟩, mf⟩ := cells8 hb
    clear h hb ho hs hS1 hS2 e1
    go_enter Try.func34, Try.ntmps34
    go_wp2
    go_returns
    exact ⟨rfl, HT.out _ (Below.refl _ _)⟩
  by_cases a2 : P.a < i
  · have e1 : cmE P i = 1 := by unfold cmE; rw [if_neg a1, if_pos a2]
    have HT : Hid (∀ w2, Below w.heap.size w w2 → LTh N S w w2 b (cmP P i)) := fun w2 h2 => by unfold cmP; rw [e1, if_neg (by decide)]; exact h.th hN h2
    rw [e1]
    obtain ⟨⟨m0, m1, m2, m3, m4, m5, m6, m7⟩, mf⟩ := cells8 hb
    clear h hb ho hs hS1 hS2 e1
    go_enter Try.func34, Try.ntmps34
    go_wp2
    go_returns
    exact ⟨rfl, HT.out _ (Below.refl _ _)⟩
  · have e1 : cmE P i = 0 := by unfold cmE; rw [if_neg a1, if_neg a2]
    have e2 : cmP P i = ⟨i, P.tm i, P.E.drop (i - P.bi).toNat, P.h, P.s, P.c, P.g, P.a⟩ := by unfold cmP; rw [e1, if_pos rfl]
    have hbi : P.bi ≤ i := by omega
    have hia : i ≤ P.a := by omega
    have hok := cm_ok h.ok hbi hia
    have hal : i ≤ P.li := by have := h.ok.ag; have := h.ok.gc; have := h.ok.cl; omega
    have h0 := h.ok.b0
    have hlim := h.ok.lim
    have hlen := h.ok.len
    obtain ⟨n, hn⟩ : ∃ n : Nat, i - P.bi = (n : Int) := ⟨(i - P.bi).toNat, by omega⟩
    have hnl : n ≤ P.E.length := by unfold PL.li at hal; omega
    have er : P.er i = 0 := by unfold PL.er; rw [if_neg (by omega), if_neg (by omega)]
    have ett : P.tt i = P.tm i := by unfold PL.tt; rw [er]; rfl
    have ht := Term_any h i
    rw [er, ett] at ht
    have HTM : Hid (Calls _ _ _ _ _) := ht
    rw [e1, e2]
    rw [show (i - P.bi).toNat = n by omega] at hok ⊢
    have HCB : Hid (∀ w2, Below w.heap.size w w2 → w2.heap[b]? = some (.cells #[.int .i64 P.bi, .int .i64 P.bt, .slice va P.E.length vc, .int .i64 P.h, .int .i64 P.s, .int .i64 P.c, .int .i64 P.g, .int .i64 P.a] 79 (0, 0))) := fun w2 h2 => (h2.block b hbw).trans hb
    have HFIN : Hid (∀ w3 w5 v', Below w.heap.size w w3 → w5.ownsRow 0 40 4 v' (([] : List Ent).length + (es.drop n).length) (entCells [] ++ entCells (es.drop n)) → w3.grownBy w5 none → (v'.ownBlock = none ∨ v'.ownBlock = some w3.heap.size) → w5.heap[b]? = some (.cells #[.int .i64 P.bi, .int .i64 P.bt, .slice va P.E.length vc, .int .i64 P.h, .int .i64 P.s, .int .i64 P.c, .int .i64 P.g, .int .i64 P.a] 79 (0, 0)) ∧ (∃ sa sc, v' = .slice sa (P.E.length - n) sc) ∧ LTh N S w (((w5.setCell ⟨b, 2, none⟩ v').setCell ⟨b, 0, none⟩ (.int .i64 i)).setCell ⟨b, 1, none⟩ (.int .i64 (P.tm i))) b ⟨i, P.tm i, P.E.drop n, P.h, P.s, P.c, P.g, P.a⟩) := fun w3 w5 v' h3 q1 q2 q3 => by
      have hb3 := HCB.out w3 h3
      have hbw3 : b < w3.heap.size := Nat.lt_of_lt_of_le hbw h3.size
      have hb5 : w5.heap[b]? = _ := (q2.block b hbw3 (by simp)).trans hb3
      have hO35 : Out (fun _ => False) w3 w5 := Out.grown q2 (by simp)
      have ho5 : EntsOw 0 w5 v' (es.drop n) := by
        have := EntsOw.app (es := []) (fs := es.drop n) (EntsOw.nil 0 w3) (fun e he => (ho.dat e (List.mem_of_mem_drop he)).below h3 (Nat.le_refl _)) q1 q2
        simpa using this
      refine ⟨hb5, ?_, ?_⟩
      · obtain ⟨sa, sc, e, -⟩ := ho5.shape
        refine ⟨sa, sc, ?_⟩
        rw [e]
        congr 1
        simp [hl]
      · have hO5 : Out S w (((w5.setCell ⟨b, 2, none⟩ v').setCell ⟨b, 0, none⟩ (.int .i64 i)).setCell ⟨b, 1, none⟩ (.int .i64 (P.tm i))) := (((((Out.of_below h3).trans hO35 (fun i hi _ => hi.elim)).put h.Sb).put h.Sb).put h.Sb)
        have hOb : Out (fun j => j = b) w5 (((w5.setCell ⟨b, 2, none⟩ v').setCell ⟨b, 0, none⟩ (.int .i64 i)).setCell ⟨b, 1, none⟩ (.int .i64 (P.tm i))) := (((Out.refl (fun j => j = b) w5).put rfl).put rfl).put rfl
        refine Lg.turn h hN hO5 v' (es.drop n) ?_ (ho5.out hOb ?_ ?_) ?_ ?_ ?_ hok
        · rw [heap_set (heap_set (heap_set hb5 2 _) 0 _) 1 _]; rfl
        · rintro g hg rfl; exact ho5.not_at hb5 (by decide) hg
        · rintro e he g hg rfl; exact (ho5.dat e he).not_at hb5 (by decide) hg
        · rw [List.map_drop, hs]
        · intro g hg
          rcases q3 with q3 | q3
          · rw [q3] at hg; cases hg
          · rw [q3] at hg; cases hg; exact .inr h3.size
        · intro e he g hg
          exact .inl (hS2 e (List.mem_of_mem_drop he) g hg)
    have HAT : Hid (EntsAt w.heap.size w va es) := EntsOw.at (es := es) (by rw [hl]; exact ho)
    have hw1 : i - P.bi = (n : Int) := hn
    have hn0 : (0 : Int) ≤ (n : Int) := by omega
    have hn1 : (n : Int) ≤ (P.E.length : Int) := by omega
    have HES : Hid ((es.drop n).length = P.E.length - n) := by show _ = _; simp [hl]
    have hrow0 := ho.row.2
    clear h hb ho hs hS1 hS2 e1 e2 hok er ett ht
    generalize P.tm i = tm at *
    rcases hrow0 with ⟨hv, hz⟩ | ⟨g, cap, cur, hv, -, hgb, -⟩
    · simp only [Value.slice.injEq] at hv
      obtain ⟨rfl, -, rfl⟩ := hv
      have hn00 : n = 0 := by omega
      have hesl : es.length = 0 := hz
      have hm00 : P.E.length = 0 := by rw [← hl]; exact by simpa [hl] using hz
      subst hn00
      have hib : i = P.bi := by omega
      subst hib
      clear hw1 hn hn0 hn1
      have hw1 : P.bi - P.bi = 0 := by omega
      have hwn : IntKind.i64.wrap 0 = 0 := by rw [IntKind.wrap_i64]; omega
      have HA2 : Hid (∀ w3 : World, Below w.heap.size w w3 → EntsAt w.heap.size w3 none (es.drop 0)) := fun w3 h3 => .inl (by rw [List.drop_zero]; exact List.length_eq_zero_iff.1 (by rw [hl]; exact hm00))
      go_enter Try.func34, Try.ntmps34
      obtain ⟨⟨m0, m1, m2, m3, m4, m5, m6, m7⟩, mf⟩ := cells8 (HCB.out w (Below.refl _ _))
      go_wp2_with fail
      refine HTM.out.mono ?_
      rintro r w3 ⟨rfl, hB3⟩
      have HB3 : Hid (Below w.heap.size w w3) := hB3
      clear m0 m1 m2 m3 m4 m5 m6 m7 mf
      obtain ⟨⟨m0, m1, m2, m3, m4, m5, m6, m7⟩, mf⟩ := cells8 (HCB.out w3 hB3)
      have hbw3 : b < w3.heap.size := Nat.lt_of_lt_of_le hbw hB3.size
      have hat3 := HA2.out w3.drew HB3.out.drew
      have hrow3 := (EntsOw.nil 0 w3.drew).row
      have hlen3 : ([] : List Ent).length + (es.drop 0).length ≤ 1000000000 := by rw [HES.out]; simp; omega
      clear hB3 HTM HCB HAT HA2
      rw [hm00] at *
      go_wp2_with fail
      go_region_law (first
        | (refine step_append_ents rfl (.const (.slice none 0 0)) (.tmp 41) rfl 0 w.heap.size (.slice none 0 0) none (0) [] (es.drop 0) (by simp [Act.eval]) hrow3 (by simp [Act.eval, Act.put, hesl]) hat3 hlen3 (Nat.zero_le _) ?_; intro v' w5 q1 q2 q3; obtain ⟨hb5, ⟨sa, sc, rfl⟩, hT⟩ := HFIN.out w3.drew w5 v' HB3.out.drew q1 q2 (q3.imp (fun h => h) (fun h => h)); obtain ⟨⟨n0, n1, n2, n3, n4, n5, n6, n7⟩, nf⟩ := cells8 hb5; have hbw5 : b < w5.heap.size := Nat.lt_of_lt_of_le hbw3 q2.size; have HT : Hid (LTh _ _ _ _ _ _) := hT; clear q1 q2 q3 hT)
        | fail)
      all_goals (go_wp2; go_returns; exact ⟨rfl, HT.out⟩)
    · simp only [Value.slice.injEq] at hv
      obtain ⟨rfl, -, rfl⟩ := hv
      by_cases hvn : vc = n
      · have HA2 : Hid (∀ w3 : World, Below w.heap.size w w3 → EntsAt w.heap.size w3 (some ⟨g, 0, none⟩) (es.drop n)) := fun w3 h3 => .inl (List.length_eq_zero_iff.1 (by rw [HES.out]; omega))
        have hib : i = P.bi + (n : Int) := by omega
        subst hib
        clear hw1 hn
        have hw1 : P.bi + (n : Int) - P.bi = (n : Int) := by omega
        have hwn : IntKind.i64.wrap (n : Int) = (n : Int) := by rw [IntKind.wrap_i64]; omega
        go_enter Try.func34, Try.ntmps34
        obtain ⟨⟨m0, m1, m2, m3, m4, m5, m6, m7⟩, mf⟩ := cells8 (HCB.out w (Below.refl _ _))
        go_wp2_with fail
        refine HTM.out.mono ?_
        rintro r w3 ⟨rfl, hB3⟩
        have HB3 : Hid (Below w.heap.size w w3) := hB3
        clear m0 m1 m2 m3 m4 m5 m6 m7 mf
        obtain ⟨⟨m0, m1, m2, m3, m4, m5, m6, m7⟩, mf⟩ := cells8 (HCB.out w3 hB3)
        have hbw3 : b < w3.heap.size := Nat.lt_of_lt_of_le hbw hB3.size
        have hat3 := HA2.out w3.drew HB3.out.drew
        have hrow3 := (EntsOw.nil 0 w3.drew).row
        have hlen3 : ([] : List Ent).length + (es.drop n).length ≤ 1000000000 := by rw [HES.out]; simp; omega
        clear hB3 HTM HCB HAT HA2
        generalize P.E.length = m at *
        go_wp2_with fail
        go_region_law (first
          | (refine step_append_ents rfl (.const (.slice none 0 0)) (.tmp 41) rfl 0 w.heap.size (.slice none 0 0) (some ⟨g, 0, none⟩) 0 [] (es.drop n) (by simp [Act.eval]) hrow3 (by simp [Act.eval, Act.put, hl]) hat3 hlen3 (Nat.zero_le _) ?_; intro v' w5 q1 q2 q3; obtain ⟨hb5, ⟨sa, sc, rfl⟩, hT⟩ := HFIN.out w3.drew w5 v' HB3.out.drew q1 q2 (q3.imp (fun h => h) (fun h => h)); obtain ⟨⟨n0, n1, n2, n3, n4, n5, n6, n7⟩, nf⟩ := cells8 hb5; have hbw5 : b < w5.heap.size := Nat.lt_of_lt_of_le hbw3 q2.size; have HT : Hid (LTh _ _ _ _ _ _) := hT; clear q1 q2 q3 hT)
          | fail)
        all_goals (go_wp2; go_returns; exact ⟨rfl, HT.out⟩)
      · have HA2 : Hid (∀ w3, Below w.heap.size w w3 → EntsAt w.heap.size w3 (some ⟨g, n * 4, none⟩) (es.drop n)) := fun w3 h3 => by
          have := (HAT.out.cut n es.length).below h3
          rwa [List.take_of_length_le (by simp), Nat.zero_add] at this
        have hib : i = P.bi + (n : Int) := by omega
        subst hib
        clear hw1 hn
        have hw1 : P.bi + (n : Int) - P.bi = (n : Int) := by omega
        have hwn : IntKind.i64.wrap (n : Int) = (n : Int) := by rw [IntKind.wrap_i64]; omega
        go_enter Try.func34, Try.ntmps34
        obtain ⟨⟨m0, m1, m2, m3, m4, m5, m6, m7⟩, mf⟩ := cells8 (HCB.out w (Below.refl _ _))
        go_wp2_with fail
        refine HTM.out.mono ?_
        rintro r w3 ⟨rfl, hB3⟩
        have HB3 : Hid (Below w.heap.size w w3) := hB3
        clear m0 m1 m2 m3 m4 m5 m6 m7 mf
        obtain ⟨⟨m0, m1, m2, m3, m4, m5, m6, m7⟩, mf⟩ := cells8 (HCB.out w3 hB3)
        have hbw3 : b < w3.heap.size := Nat.lt_of_lt_of_le hbw hB3.size
        have hat3 := HA2.out w3.drew HB3.out.drew
        have hrow3 := (EntsOw.nil 0 w3.drew).row
        have hlen3 : ([] : List Ent).length + (es.drop n).length ≤ 1000000000 := by rw [HES.out]; simp; omega
        clear hB3 HTM HCB HAT HA2
        generalize P.E.length = m at *
        go_wp2_with fail
        go_region_law (first
          | (refine step_append_ents rfl (.const (.slice none 0 0)) (.tmp 41) rfl 0 w.heap.size (.slice none 0 0) (some ⟨g, n * 4, none⟩) (vc - n) [] (es.drop n) (by simp [Act.eval]) hrow3 (by simp [Act.eval, Act.put, hl]) hat3 hlen3 (Nat.zero_le _) ?_; intro v' w5 q1 q2 q3; obtain ⟨hb5, ⟨sa, sc, rfl⟩, hT⟩ := HFIN.out w3.drew w5 v' HB3.out.drew q1 q2 (q3.imp (fun h => h) (fun h => h)); obtain ⟨⟨n0, n1, n2, n3, n4, n5, n6, n7⟩, nf⟩ := cells8 hb5; have hbw5 : b < w5.heap.size := Nat.lt_of_lt_of_le hbw3 q2.size; have HT : Hid (LTh _ _ _ _ _ _) := hT; clear q1 q2 q3 hT)
          | fail)
        all_goals (go_wp2; go_returns; exact ⟨rfl, HT.out⟩)
end Go.Proofs.Yteekpfgjpdopmaa
