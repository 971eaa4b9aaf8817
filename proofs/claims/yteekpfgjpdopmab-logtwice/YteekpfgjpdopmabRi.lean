/-
  Numbers that do not fall; a log of them.
-/
import Derived.Test.YteekpfgjpdopmabFi
import Derived.Test.YteekpfgjpdopmabIn
namespace Go.Proofs.Yteekpfgjpdopmab
open Go.RowKit
set_option linter.unusedVariables false

def stp (x : Int) : Int := ((x.tmod 3 + 3).tmod 3).tdiv 2
/-- rising. -/
def risF : Int → List Int → List Int
  | _, [] => []
  | t, x :: r => min (t + stp x) 9 :: risF (min (t + stp x) 9) r
theorem stp_bd (x : Int) : ∃ a c, x.tmod 3 = a ∧ (a + 3).tmod 3 = c ∧ c.tdiv 2 = stp x ∧ -2 ≤ a ∧ a ≤ 2 ∧ 0 ≤ c ∧ c ≤ 2 ∧ 0 ≤ stp x ∧ stp x ≤ 1 := by
  have a1 : x.tmod 3 < 3 := Int.tmod_lt_of_pos x (by omega)
  have a2 : -3 < x.tmod 3 := by have := Int.lt_tmod_of_pos x (b := 3) (by omega); omega
  have c1 : (x.tmod 3 + 3).tmod 3 < 3 := Int.tmod_lt_of_pos _ (by omega)
  have c2 : 0 ≤ (x.tmod 3 + 3).tmod 3 := Int.tmod_nonneg _ (by omega)
  have hc : (x.tmod 3 + 3).tmod 3 = 0 ∨ (x.tmod 3 + 3).tmod 3 = 1 ∨ (x.tmod 3 + 3).tmod 3 = 2 := by omega
  have hs : 0 ≤ stp x ∧ stp x ≤ 1 := by
    unfold stp
    rcases hc with e | e | e <;> rw [e] <;> decide
  exact ⟨_, _, rfl, rfl, rfl, by omega, by omega, c2, by omega, hs.1, hs.2⟩
theorem risF_length : ∀ (l : List Int) (t : Int), (risF t l).length = l.length
  | [], _ => rfl
  | x :: r, t => by simp [risF, risF_length r]
theorem risF_bd : ∀ (l : List Int) (t : Int), 1 ≤ t → t ≤ 9 → ∀ y ∈ risF t l, t ≤ y ∧ y ≤ 9
  | [], _, _, _, y, hy => by simp [risF] at hy
  | x :: r, t, h1, h2, y, hy => by
    obtain ⟨a, c, -, -, -, -, -, -, -, s0, s1⟩ := stp_bd x
    simp only [risF, List.mem_cons] at hy
    rcases hy with rfl | hy
    · omega
    · have := risF_bd r (min (t + stp x) 9) (by omega) (by omega) y hy
      omega
theorem dropI {l : List Int} {k : Nat} (h : k < l.length) : l.drop k = l[k]?.getD 0 :: l.drop (k + 1) := by
  rw [List.drop_eq_getElem_cons h, List.getElem?_eq_getElem h]; rfl

set_option maxRecDepth 100000 in
set_option maxHeartbeats 4000000 in
theorem rising_any (M : Nat) (v : Value) (l : List Int) (w : World) (hv : ISl M w v l) (hM : M ≤ w.heap.size) (hl : l.length ≤ 1000) :
    Calls Try.prog 10 #[v] w fun e w' => ∃ v', e = .returned v' ∧ IOw w.heap.size w' v' (risF 1 l) ∧ Below w.heap.size w w' := by
  obtain ⟨a, cap, rfl, -⟩ := id hv
  have HV : Hid (ISl M w (.slice a l.length cap) l) := hv
  clear hv
  go_enter Try.func10, Try.ntmps10
  go_wp2_with fail
  go_loopw [3, 4, 5] (fun ov tv iv wr => ∃ (k : Nat) (t : Int) (done : List Int) (oa : Option Addr) (oc : Nat), iv = .int .i64 (k : Int) ∧ tv = .int .i64 t ∧ ov = .slice oa k oc ∧ k ≤ l.length ∧ 1 ≤ t ∧ t ≤ 9 ∧ done.length = k ∧ done ++ risF t (l.drop k) = risF 1 l ∧ IOw w.heap.size wr (.slice oa k oc) done ∧ Below w.heap.size w wr) (fun _ _ iv _ => l.length - (intOf iv).toNat)
  case atStart => exact ⟨0, 1, [], none, 0, rfl, rfl, rfl, Nat.zero_le _, by omega, by omega, rfl, rfl, IOw.nil _ _, Below.refl _ _⟩
  case round =>
    obtain ⟨k, t, done, oa, oc, rfl, rfl, rfl, hk, ht1, ht9, hdn, hdr, hO, hB⟩ := hrel
    have HDN : Hid (done.length = k) := hdn
    have HDR : Hid (done ++ risF t (l.drop k) = risF 1 l) := hdr
    have HB : Hid (Below w.heap.size w wr) := hB
    have HO : Hid (IOw w.heap.size wr (.slice oa k oc) done) := hO
    clear hdn hdr hB hO
    by_cases hlt : k < l.length
    · obtain ⟨_, _, heq, -, -, hc⟩ := HV.out.below (HB.out.mono hM)
      cases heq
      obtain ⟨g, off, rfl, hg, hc⟩ := hc.resolve_left (by intro h; rw [h] at hlt; simp at hlt)
      have c0 := hc k hlt
      have HD : Hid (l.drop k = l[k]?.getD 0 :: l.drop (k + 1)) := dropI hlt
      generalize l[k]?.getD 0 = x at *
      obtain ⟨q1, q2, e1, e2, e3, b1, b2, b3, b4, b5, b6⟩ := stp_bd x
      have HN : Hid (∀ y, y = min (t + stp x) 9 → done ++ [y] ++ risF y (l.drop (k + 1)) = risF 1 l) := fun y hy => by
        subst hy
        rw [← HDR.out, HD.out, risF]; simp
      have HOA : Hid (∀ y, IOw w.heap.size (wr.alloc (.cells #[Value.int .i64 y] 3)) (.slice oa k oc) done) := fun y => HO.out.alloc _
      have i0 : (0 : Int) ≤ (k : Int) := by omega
      have i1 : (k : Int) < (l.length : Int) := by omega
      have hlen : ∀ y : Int, done.length + [y].length ≤ 1099511627776 := fun y => by rw [HDN.out]; simp; omega
      have hNw : ∀ y : Int, w.heap.size ≤ (wr.alloc (.cells #[Value.int .i64 y] 3)).heap.size := fun y => by have := HB.out.size; simp; omega
      generalize stp x = st at *
      clear hc HO
      by_cases h9 : t + st ≤ 9
      · have HY : Hid (t + st = min (t + st) 9) := by show _ = _; omega
        go_wp2_with (at_builtin; refine IwpList_append_ow rfl _ _ rfl w.heap.size (wr.heap.size + 1) _ _ done [t + st] rfl (HOA.out _) rfl (Isl_one wr (t + st)) (hlen _) (hNw _) ?_; intro v' w1 q1' q2' q3'; obtain ⟨sa, sc, rfl, -, -⟩ := q1'.shape)
        refine ⟨⟨k + 1, t + st, done ++ [t + st], sa, sc, by go_num, rfl, by simp [HDN.out], by omega, by omega, by omega, by simp [HDN.out], HN.out _ HY.out, ?_, ?_⟩, by simp [intOf]; omega⟩
        · simpa [HDN.out] using q1'
        · exact (HB.out.alloc HB.out.size _).grown q2' (hNw _) (fun j hj => (World.ownsRow.lt (HOA.out (t + st)) j hj).1)
      · have HY : Hid ((9 : Int) = min (t + st) 9) := by show _ = _; omega
        have h9' : (9 : Int) < t + st := by omega
        clear h9
        go_wp2_with (at_builtin; refine IwpList_append_ow rfl _ _ rfl w.heap.size (wr.heap.size + 1) _ _ done [(9 : Int)] rfl (HOA.out (9 : Int)) rfl (Isl_one wr (9 : Int)) (hlen (9 : Int)) (hNw (9 : Int)) ?_; intro v' w1 q1' q2' q3'; obtain ⟨sa, sc, rfl, -, -⟩ := q1'.shape)
        refine ⟨⟨k + 1, 9, done ++ [9], sa, sc, by go_num, rfl, by simp [HDN.out], by omega, by omega, by omega, by simp [HDN.out], HN.out _ HY.out, ?_, ?_⟩, by simp [intOf]; omega⟩
        · simpa [HDN.out] using q1'
        · exact (HB.out.alloc HB.out.size _).grown q2' (hNw _) (fun j hj => (World.ownsRow.lt (HOA.out 9) j hj).1)
    · have HE : Hid (done = risF 1 l) := by
        show done = risF 1 l
        have := HDR.out
        rw [List.drop_of_length_le (by omega)] at this
        simpa [risF] using this
      go_wp2
      go_ret
      exact ⟨_, rfl, by rw [← HE.out]; exact HO.out, HB.out⟩
end Go.Proofs.Yteekpfgjpdopmab
