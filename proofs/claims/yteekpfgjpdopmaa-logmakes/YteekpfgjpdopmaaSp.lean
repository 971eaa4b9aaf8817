/-
  span: a part of a log's entries, copied.
-/
import Derived.Test.YteekpfgjpdopmaaAd
namespace Go.Proofs.Yteekpfgjpdopmaa
open Go.RowKit
set_option linter.unusedVariables false

/-- How many of them. -/
def cnt (behind to most : Int) : Nat := (max 0 (min most (to - behind))).toNat

set_option maxRecDepth 100000 in
set_option maxHeartbeats 4000000 in
/-- span. -/
theorem span_any {N : Nat} {S : Nat → Prop} {w : World} {b : Nat} {P : PL} (h : Lg N S w b P) (n0 : Nat) (to most : Int) (h1 : P.bi + (n0 : Int) ≤ to) (h2 : to ≤ P.li) :
    Calls Try.prog 76 #[.pointer (some ⟨b, 0, none⟩), .int .i64 (P.bi + (n0 : Int)), .int .i64 to, .int .i64 most] w fun e w' => ∃ v fs, e = .returned v ∧ EntsOw w.heap.size w' v fs ∧ fs.map Ent.says = (P.E.drop n0).take (cnt (P.bi + (n0 : Int)) to most) ∧ Below w.heap.size w w' := by
  obtain ⟨va, vc, es, hb, ho, hs, hl, hvc, hvm, -, -⟩ := h.cells
  have hbw := h.inn _ h.Sb
  obtain ⟨⟨m0, -, m2, -⟩, -⟩ := cells8 hb
  have hlim := h.ok.lim
  have hb0 := h.ok.b0
  have hlen := h.ok.len
  obtain ⟨cn, hcn⟩ : ∃ cn : Nat, cnt (P.bi + (n0 : Int)) to most = cn := ⟨_, rfl⟩
  have hcn2 : max 0 (min most (to - (P.bi + (n0 : Int)))) = (cn : Int) := by rw [← hcn]; unfold cnt; omega
  have hle : n0 + cn ≤ P.E.length := by unfold PL.li at h2; omega
  rw [hcn]
  have hat := EntsOw.at (es := es) (by rw [hl]; exact ho)
  have hes : ∀ e ∈ es, e.d.length ≤ 1000000000 := fun e he => by
    have := eCk_ok (h.ok.ck e.says (by rw [← hs]; exact List.mem_map.2 ⟨e, he, rfl⟩))
    have h2 : e.d.length ≤ 4096 := this.2.2.2.2
    omega
  have HCP : Hid (∀ a' c', EntsAt w.heap.size w a' ((es.drop n0).take cn) → Calls Try.prog 42 #[.slice a' cn c'] w fun e w' => ∃ v fs, e = .returned v ∧ EntsOw w.heap.size w' v fs ∧ fs.map Ent.says = (P.E.drop n0).take cn ∧ Below w.heap.size w w') := fun a' c' ha => by
    have hll : ((es.drop n0).take cn).length = cn := by simp; omega
    have := copies_any a' c' ((es.drop n0).take cn) w.heap.size w ha (Nat.le_refl _) (by omega) (fun e he => hes e (List.mem_of_mem_drop (List.mem_of_mem_take he)))
    rw [hll] at this
    rw [← hs, ← List.map_drop, ← List.map_take]
    exact this
  have HNW : Hid (max 0 (min most (to - (P.bi + (n0 : Int)))) = (cn : Int)) := hcn2
  have hw1 : P.bi + (n0 : Int) - P.bi = (n0 : Int) := by omega
  rcases ho.row.2 with ⟨hv, hz⟩ | ⟨g, cap, cur, hv, -, hgb, hc1, hc2, hc3, hc4⟩
  · simp only [Value.slice.injEq] at hv
    obtain ⟨rfl, -, rfl⟩ := hv
    rw [hl] at hz
    have hn0 : n0 = 0 := by omega
    have hcn0 : cn = 0 := by omega
    subst hn0
    subst hcn0
    rw [hz] at m2
    have hcp := HCP.out none 0 (by simp [EntsAt])
    have hto : to = P.bi + ((0 : Nat) : Int) := by unfold PL.li at h2; omega
    subst hto
    clear h hb ho hs hat hes HCP HNW hcn hcn2
    have hw3 : P.bi + ((0 : Nat) : Int) - (P.bi + ((0 : Nat) : Int)) = 0 := by omega
    have e0 : P.bi + ((0 : Nat) : Int) = P.bi := by simp
    rw [e0] at hw3 ⊢
    clear hw1 e0 h1 h2
    by_cases a1 : most ≤ 0
    · go_enter Try.func76, Try.ntmps76
      go_wp2_with (go_at_call 42; refine hcp.mono ?_; rintro r w1 ⟨v, fs, rfl, q1, q2, q3⟩)
      all_goals (go_ret; exact ⟨v, fs, rfl, q1, q2, q3⟩)
    · go_enter Try.func76, Try.ntmps76
      go_wp2_with (go_at_call 42; refine hcp.mono ?_; rintro r w1 ⟨v, fs, rfl, q1, q2, q3⟩)
      all_goals (go_ret; exact ⟨v, fs, rfl, q1, q2, q3⟩)
  · simp only [Value.slice.injEq] at hv
    obtain ⟨rfl, -, rfl⟩ := hv
    have HCQ : Hid (∀ off c', (off = n0 * 4 ∨ cn = 0 ∨ vc ≤ n0) → Calls Try.prog 42 #[.slice (some ⟨g, off, none⟩) cn c'] w fun e w' => ∃ v fs, e = .returned v ∧ EntsOw w.heap.size w' v fs ∧ fs.map Ent.says = (P.E.drop n0).take cn ∧ Below w.heap.size w w') := fun off c' ho => HCP.out (some ⟨g, off, none⟩) c' (by
      rcases ho with rfl | ho
      · have := hat.cut n0 cn; rw [Nat.zero_add] at this; exact this
      · exact .inl (by have : cn = 0 := by omega
                       subst this; simp))
    unfold maxLen at hvm
    have hd : decide (to - (P.bi + (n0 : Int)) < 0) = false := by simp; omega
    clear h hb ho hs hat hes HCP hc3 hc4 hgb
    unfold PL.li at h2
    rcases (show (most ≤ 0 ∧ cn = 0) ∨ (0 < most ∧ most ≤ to - (P.bi + (n0 : Int)) ∧ most = (cn : Int)) ∨ (0 < most ∧ to - (P.bi + (n0 : Int)) < most ∧ to - (P.bi + (n0 : Int)) = (cn : Int)) by have := HNW.out; omega) with ⟨a1, a2⟩ | ⟨a1, a2, a3⟩ | ⟨a1, a2, a3⟩
    · clear HNW
      subst a2
      go_enter Try.func76, Try.ntmps76
      go_wp2_with fail
      · refine (HCQ.out 0 0 (by simp)).mono ?_
        rintro r w1 ⟨v, fs, rfl, q1, q2, q3⟩
        go_wp2
        go_ret
        exact ⟨v, fs, rfl, q1, q2, q3⟩
      · refine (HCQ.out (n0 * 4) (vc - n0) (.inl rfl)).mono ?_
        rintro r w1 ⟨v, fs, rfl, q1, q2, q3⟩
        go_wp2
        go_ret
        exact ⟨v, fs, rfl, q1, q2, q3⟩
    · clear HNW
      subst a3
      go_enter Try.func76, Try.ntmps76
      go_wp2_with fail
      refine (HCQ.out (n0 * 4) (vc - n0) (.inl rfl)).mono ?_
      rintro r w1 ⟨v, fs, rfl, q1, q2, q3⟩
      go_wp2
      go_ret
      exact ⟨v, fs, rfl, q1, q2, q3⟩
    · clear HNW
      by_cases hz : cn = 0
      · subst hz
        have a4 : to - (P.bi + (n0 : Int)) = 0 := by omega
        clear a3
        go_enter Try.func76, Try.ntmps76
        go_wp2_with fail
        · refine (HCQ.out 0 0 (by simp)).mono ?_
          rintro r w1 ⟨v, fs, rfl, q1, q2, q3⟩
          go_wp2
          go_ret
          exact ⟨v, fs, rfl, q1, q2, q3⟩
        · refine (HCQ.out (n0 * 4) (vc - n0) (.inl rfl)).mono ?_
          rintro r w1 ⟨v, fs, rfl, q1, q2, q3⟩
          go_wp2
          go_ret
          exact ⟨v, fs, rfl, q1, q2, q3⟩
      · have hz' : 0 < cn := by omega
        have hvn : n0 < vc := by omega
        go_enter Try.func76, Try.ntmps76
        go_wp2_with fail
        refine (HCQ.out (n0 * 4) (vc - n0) (.inl rfl)).mono ?_
        rintro r w1 ⟨v, fs, rfl, q1, q2, q3⟩
        go_wp2
        go_ret
        exact ⟨v, fs, rfl, q1, q2, q3⟩
end Go.Proofs.Yteekpfgjpdopmaa
