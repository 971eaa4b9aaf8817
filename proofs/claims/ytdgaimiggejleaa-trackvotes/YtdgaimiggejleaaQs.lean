/-
  Two lists the same; the document's Quorum and Commit.
-/
import Derived.Test.YtdgaimiggejleaaPk
namespace Go.Proofs.Ytdgaimiggejleaa
open Go.RowKit
set_option linter.unusedVariables false

theorem same_yes {l1 l2 : List Int} (hl : l1.length = l2.length) (h : ∀ j, j < l1.length → l1[j]?.getD 0 = l2[j]?.getD 0) : l1 = l2 := by
  apply List.ext_getElem hl
  intro i h1 h2
  have := h i h1
  simpa [List.getElem?_eq_getElem h1, List.getElem?_eq_getElem h2] using this

set_option maxRecDepth 100000 in
set_option maxHeartbeats 1000000 in
theorem same_any (N : Nat) (v1 v2 : Value) (l1 l2 : List Int) (w : World) (h1 : Sl N w v1 l1) (h2 : Sl N w v2 l2) :
    Calls Try.prog 11 #[v1, v2] w fun e w' => e = .returned (.bool (decide (l1 = l2))) ∧ ∃ n, w' = w.drewN n := by
  obtain ⟨a1, cap1, rfl, hc1, hm1, g1⟩ := h1
  obtain ⟨a2, cap2, rfl, hc2, hm2, g2⟩ := h2
  unfold maxLen at hm1 hm2
  by_cases hlen : l1.length = l2.length
  · have e1 : ((l1.length : Int) != (l2.length : Int)) = false := by simp [hlen]
    by_cases hz : l1 = []
    · subst hz
      obtain rfl : l2 = [] := List.length_eq_zero_iff.1 (by simpa using hlen.symm)
      clear hlen
      go_enter Try.func11, Try.ntmps11
      go_wp2
      go_loop [5] (fun i => i = .int .i64 0) (fun _ => 0)
      case atStart => rfl
      case round =>
        subst hrel
        go_wp2
        go_ret
        exact ⟨rfl, 0, rfl⟩
    · have hp : 0 < l1.length := List.length_pos_iff.2 hz
      obtain ⟨b1, o1, rfl, -, f1⟩ := g1.resolve_left hz
      obtain ⟨b2, o2, rfl, -, f2⟩ := g2.resolve_left (by intro h; rw [h] at hlen; simp at hlen; exact hz hlen)
      have HL : Hid (l1.length = l2.length) := hlen
      have hle : l1.length ≤ l2.length := by omega
      clear hlen
      go_enter Try.func11, Try.ntmps11
      go_wp2
      go_loopw [5] (fun i wr => ∃ k n : Nat, i = .int .i64 k ∧ k ≤ l1.length ∧ wr = w.drewN n ∧ ∀ j, j < k → l1[j]?.getD 0 = l2[j]?.getD 0) (fun i _ => l1.length - (intOf i).toNat)
      case atStart => exact ⟨0, 0, rfl, by omega, rfl, fun j hj => by omega⟩
      case round =>
        obtain ⟨k, n, rfl, hk, rfl, hj⟩ := hrel
        by_cases hlt : k < l1.length
        · have c1 := f1 k hlt
          have c2 := f2 k (by omega)
          have HJ : Hid (∀ j, j < k → l1[j]?.getD 0 = l2[j]?.getD 0) := hj
          clear hj f1 f2
          generalize hx1 : l1[k]?.getD 0 = x1 at c1
          generalize hx2 : l2[k]?.getD 0 = x2 at c2
          have H1 : Hid (l1[k]?.getD 0 = x1) := hx1
          have H2 : Hid (l2[k]?.getD 0 = x2) := hx2
          clear hx1 hx2
          by_cases he : x1 = x2
          · subst he
            go_wp2
            go_quiet (fail)
            go_wp2
            go_roundw
            case rel => 
              refine ⟨k + 1, _, by go_num, by omega, rfl, fun j hj => ?_⟩
              by_cases e : j = k
              · subst e; rw [H1.out, H2.out]
              · exact HJ.out j (by omega)
            case measure => simp [intOf]; omega
          · have hb : (x1 != x2) = true := by
              rw [bne_iff_ne]; exact he
            have HN : Hid (decide (l1 = l2) = false) := by
              show decide (l1 = l2) = false
              simp only [decide_eq_false_iff_not]; intro h; apply he; rw [← H1.out, ← H2.out, h]
            clear he
            go_wp2
            go_quiet (fail)
            go_wp2
            go_ret
            rw [HN.out]
            exact ⟨rfl, n + nq, by simp⟩
        · have HN : Hid (decide (l1 = l2) = true) := by
            show decide (l1 = l2) = true
            simp only [decide_eq_true_eq]
            exact same_yes HL.out (fun j hj' => hj j (by omega))
          clear hj
          go_wp2
          go_ret
          rw [HN.out]
          exact ⟨rfl, _, rfl⟩
  · have e1 : ((l1.length : Int) != (l2.length : Int)) = true := by simp; omega
    have e2 : decide (l1 = l2) = false := by simp; intro h; exact hlen (by rw [h])
    rw [e2]
    clear hlen e2
    go_enter Try.func11, Try.ntmps11
    go_wp2
    go_ret
    exact ⟨rfl, 0, rfl⟩

theorem refQuorum_any (n : Int) (w : World) : Calls Try.prog 13 #[.int .i64 n] w fun e w' => e = .returned (.int .i64 (qrm n)) ∧ w' = w := by
  by_cases h : 1 ≤ n ∧ n ≤ 7
  · have hc : n = 1 ∨ n = 2 ∨ n = 3 ∨ n = 4 ∨ n = 5 ∨ n = 6 ∨ n = 7 := by omega
    clear h
    rcases hc with rfl | rfl | rfl | rfl | rfl | rfl | rfl
    all_goals (
      go_enter Try.func13, Try.ntmps13
      go_wp2
      go_ret
      exact ⟨rfl, rfl⟩)
  · rw [qrm, if_neg h]
    by_cases h1 : n < 1
    · clear h
      go_enter Try.func13, Try.ntmps13
      go_wp2
      go_ret
      exact ⟨rfl, rfl⟩
    · have h2 : 7 < n := by omega
      clear h
      go_enter Try.func13, Try.ntmps13
      go_wp2
      go_ret
      exact ⟨rfl, rfl⟩

/-- How many of the first k are at least x. -/
def cge (l : List Int) (x : Int) (k : Nat) : Nat := (l.take k).countP (fun y => decide (x ≤ y))
theorem cge_succ {l : List Int} {x : Int} {k : Nat} (hk : k < l.length) : cge l x (k + 1) = cge l x k + (if x ≤ l[k]?.getD 0 then 1 else 0) := by
  unfold cge
  rw [List.take_add_one, List.countP_append, List.getElem?_eq_getElem hk]
  simp [List.countP_cons]
theorem cge_le (l : List Int) (x : Int) (k : Nat) : cge l x k ≤ k := Nat.le_trans List.countP_le_length (by simp; omega)
/-- The best of the first k. -/
def bst (l : List Int) (q : Nat) : Nat → Int
  | 0 => 0
  | k + 1 => if q ≤ cge l (l[k]?.getD 0) l.length ∧ bst l q k < l[k]?.getD 0 then l[k]?.getD 0 else bst l q k
theorem bst_ge {l : List Int} {q : Nat} {j : Nat} (hq : q ≤ cge l (l[j]?.getD 0) l.length) : ∀ k, j < k → l[j]?.getD 0 ≤ bst l q k
  | 0, h => by omega
  | k + 1, h => by
    simp only [bst]
    by_cases e : j = k
    · subst e
      split
      · exact Int.le_refl _
      · omega
    · have := bst_ge hq k (by omega)
      split <;> omega
theorem bst_le {l : List Int} {q : Nat} {c : Int} (h0 : 0 ≤ c) (hc : ∀ x, q ≤ cge l x l.length → x ≤ c) : ∀ k, bst l q k ≤ c
  | 0 => h0
  | k + 1 => by
    simp only [bst]
    split
    · rename_i h; exact hc _ h.1
    · exact bst_le h0 hc k
theorem bst_cmt {l : List Int} (h1 : 1 ≤ l.length) (h7 : l.length ≤ 7) (h0 : ∀ x ∈ l, 0 ≤ x) : bst l (l.length / 2 + 1) l.length = cmt l := by
  have hm := cmt_mem h1 h7
  have e : ∀ x, cge l x l.length = l.countP (fun y => decide (x ≤ y)) := fun x => by unfold cge; rw [List.take_length]
  apply Int.le_antisymm
  · exact bst_le (h0 _ hm) (fun x hx => cmt_top h1 h7 (by rw [e] at hx; exact hx)) _
  · obtain ⟨j, hj, hjc⟩ := List.getElem_of_mem hm
    have hg : l[j]?.getD 0 = cmt l := by rw [List.getElem?_eq_getElem hj]; exact hjc
    have := bst_ge (l := l) (q := l.length / 2 + 1) (j := j) (by rw [hg, e]; exact cmt_have h1 h7) l.length hj
    rw [hg] at this
    exact this

set_option maxRecDepth 100000 in
set_option maxHeartbeats 4000000 in
theorem refCommit_any (M : Nat) (v : Value) (l : List Int) (w : World) (h : Sl M w v l) (h0 : ∀ x ∈ l, 0 ≤ x) :
    Calls Try.prog 14 #[v] w fun e w' => e = .returned (.int .i64 (cmt l)) ∧ ∃ n, w' = w.drewN n := by
  obtain ⟨a, cap, rfl, hc1, hc2, hcc⟩ := h
  by_cases hz : l.length = 0
  · have hzz : ((l.length : Int) == 0) = true := by simp [hz]
    rw [cmt, if_neg (by omega)]
    clear hcc h0 hc1 hc2
    go_enter Try.func14, Try.ntmps14
    go_wp2
    go_ret
    exact ⟨rfl, 0, rfl⟩
  by_cases h7 : l.length ≤ 7
  · have HBC : Hid (bst l (l.length / 2 + 1) l.length = cmt l) := bst_cmt (by omega) h7 h0
    have hzz : ((l.length : Int) == 0) = false := by simpa using hz
    obtain ⟨b, off, rfl, -, hcell⟩ := hcc.resolve_left (by intro e; rw [e] at hz; simp at hz)
    have HCE : Hid (∀ i, i < l.length → w.cell? ⟨b, off + i, none⟩ = some (.int .i64 (l[i]?.getD 0))) := hcell
    have HQ : Hid (∀ w1, Calls Try.prog 13 #[.int .i64 (l.length : Int)] w1 fun e w' => e = .returned (.int .i64 ((l.length / 2 + 1 : Nat) : Int)) ∧ w' = w1) := fun w1 => by
      have h := refQuorum_any (l.length : Int) w1
      rw [show qrm (l.length : Int) = ((l.length / 2 + 1 : Nat) : Int) from by rw [qrm, if_pos (by omega)]; omega] at h
      exact h
    have HQ7 : Hid (l.length / 2 + 1 ≤ 7) := by show _ ≤ _; omega
    generalize l.length / 2 + 1 = Q at *
    clear hcell h0 hcc
    go_enter Try.func14, Try.ntmps14
    go_wp2
    clear hzz
    go_loopw [3, 4] (fun bv iv wr => ∃ k n : Nat, bv = .int .i64 (bst l Q k) ∧ iv = .int .i64 (k : Int) ∧ k ≤ l.length ∧ wr = w.drewN n) (fun _ iv _ => l.length - (intOf iv).toNat)
    case atStart => exact ⟨0, 0, rfl, rfl, Nat.zero_le _, rfl⟩
    case round =>
      obtain ⟨k, n, rfl, rfl, hk, hwr⟩ := hrel
      by_cases hlt : k < l.length
      · generalize wr = wo at *
        have hck : wo.cell? ⟨b, off + k, none⟩ = some (.int .i64 (l[k]?.getD 0)) := by rw [hwr]; exact HCE.out k hlt
        have HWO : Hid (wo = w.drewN n) := hwr
        have HBS : Hid (bst l Q (k + 1) = if Q ≤ cge l (l[k]?.getD 0) l.length ∧ bst l Q k < l[k]?.getD 0 then l[k]?.getD 0 else bst l Q k) := rfl
        clear hwr
        generalize hxx : l[k]?.getD 0 = x at *
        generalize hB0 : bst l Q k = B at *
        have hkk : (k : Int) < (l.length : Int) := by omega
        go_wp2
        go_loopw [5, 6] (fun nv jv wr => ∃ j m : Nat, nv = .int .i64 (cge l x j : Int) ∧ jv = .int .i64 (j : Int) ∧ j ≤ l.length ∧ wr = w.drewN m) (fun _ jv _ => l.length - (intOf jv).toNat)
        case atStart => exact ⟨0, n, rfl, rfl, Nat.zero_le _, HWO.out⟩
        case round =>
          obtain ⟨j, m, rfl, rfl, hj, hwr⟩ := hrel
          have hck2 : wr.cell? ⟨b, off + k, none⟩ = some (.int .i64 x) := by rw [hwr, ← hxx]; exact HCE.out k hlt
          by_cases hjl : j < l.length
          · have hcj : wr.cell? ⟨b, off + j, none⟩ = some (.int .i64 (l[j]?.getD 0)) := by rw [hwr]; exact HCE.out j hjl
            have HCS : Hid (cge l x (j + 1) = cge l x j + (if x ≤ l[j]?.getD 0 then 1 else 0)) := cge_succ hjl
            have HWR : Hid (wr = w.drewN m) := hwr
            have hcle := cge_le l x j
            clear hwr hck
            generalize l[j]?.getD 0 = y at *
            generalize cge l x j = C at *
            have hjj : (j : Int) < (l.length : Int) := by omega
            have hwc : IntKind.i64.wrap ((C : Int) + 1) = (C : Int) + 1 := by rw [IntKind.wrap_i64]; omega
            by_cases hxy : x ≤ y
            · rw [if_pos hxy] at HCS
              go_wp2
              go_quiet (fail)
              go_wp2
              exact ⟨⟨j + 1, m + nq, by rw [HCS.out]; simp, by simp, hjl, by rw [HWR.out]; simp only [World.drewN, Nat.add_assoc]⟩, by simp [intOf]; omega⟩
            · rw [if_neg hxy] at HCS
              go_wp2
              go_quiet (fail)
              go_wp2
              exact ⟨⟨j + 1, m + nq, by rw [HCS.out]; simp, by simp, hjl, by rw [HWR.out]; simp only [World.drewN, Nat.add_assoc]⟩, by simp [intOf]; omega⟩
          · obtain rfl : j = l.length := by omega
            have HWR : Hid (wr = w.drewN m) := hwr
            clear hwr hck
            generalize hCC : cge l x l.length = C at *
            have HNX : Hid (∀ B' : Int, B' = bst l Q (k + 1) → (∃ k' n : Nat, Value.int .i64 B' = .int .i64 (bst l Q k') ∧ Value.int .i64 ((k : Int) + 1) = .int .i64 (k' : Int) ∧ k' ≤ l.length ∧ wr = w.drewN n) ∧ l.length - (intOf (Value.int .i64 ((k : Int) + 1))).toNat < l.length - (intOf (Value.int .i64 (k : Int))).toNat) := fun B' hB' => ⟨⟨k + 1, m, by rw [hB'], by simp, hlt, HWR.out⟩, by simp [intOf]; omega⟩
            by_cases hq : Q ≤ C
            · by_cases hx : B < x
              · rw [if_pos ⟨hq, hx⟩] at HBS
                go_wp2_with (go_at_call 13; refine (HQ.out _).mono ?_; rintro r wq ⟨rfl, hwq⟩; subst wq)
                exact HNX.out _ HBS.out.symm
              · rw [if_neg (fun h => hx h.2)] at HBS
                go_wp2_with (go_at_call 13; refine (HQ.out _).mono ?_; rintro r wq ⟨rfl, hwq⟩; subst wq)
                exact HNX.out _ HBS.out.symm
            · rw [if_neg (fun h => hq h.1)] at HBS
              go_wp2_with (go_at_call 13; refine (HQ.out _).mono ?_; rintro r wq ⟨rfl, hwq⟩; subst wq)
              exact HNX.out _ HBS.out.symm
      · obtain rfl : k = l.length := by omega
        rw [HBC.out]
        have HWR : Hid (wr = w.drewN n) := hwr
        clear hwr
        go_wp2
        go_ret
        exact ⟨rfl, n, HWR.out⟩
  · have hl2 : 7 < l.length := by omega
    have hzz : ((l.length : Int) == 0) = false := by simpa using hz
    rw [cmt, if_neg (by omega)]
    clear hcc h0 hc1 hc2
    go_enter Try.func14, Try.ntmps14
    go_wp2
    go_ret
    exact ⟨rfl, 0, rfl⟩
end Go.Proofs.Ytdgaimiggejleaa
