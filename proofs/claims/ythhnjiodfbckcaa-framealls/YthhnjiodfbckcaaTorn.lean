/-
  Fronts of joined frames: the frames of a front are those that are whole in it; the error is that of a torn one.
-/
import Derived.Test.YthhnjiodfbckcaaFact
import Derived.Test.YthhnjiodfbckcaaJoin
import Derived.Test.YthhnjiodfbckcaaAll
namespace Go.Proofs.Ythhnjiodfbckcaa

theorem getAt_pre (pre r : List UInt8) : getAt (pre ++ r) (pre.length : Int) = getFront r := by
  unfold getAt
  rw [if_neg (by simp; omega), Int.toNat_natCast, List.drop_left]

theorem frames_join (ms : List (List UInt8)) (t : List UInt8) (ht : (getFront t).2.2 ≠ 0) : ∀ (f : Nat) (pre : List UInt8), (∀ p ∈ ms, p.length ≤ 1048576) → ms.length < f →
    (framesFrom f (pre ++ (joinB ms ++ t)) pre.length).map Prod.snd = ms ∧ endFrom f (pre ++ (joinB ms ++ t)) pre.length = pre.length + (joinB ms).length := by
  induction ms with
  | nil =>
    intro f pre _ hf
    obtain ⟨f, rfl⟩ : ∃ f', f = f' + 1 := ⟨f - 1, by simp at hf; omega⟩
    simp only [framesFrom, endFrom, getAt_pre]
    have : joinB [] ++ t = t := by simp [joinB]
    rw [this, if_neg ht, if_neg ht]
    simp [joinB]
  | cons p ms ih =>
    intro f pre hp hf
    obtain ⟨f, rfl⟩ : ∃ f', f = f' + 1 := ⟨f - 1, by simp at hf; omega⟩
    have hpl := hp p (by simp)
    have hj : joinB (p :: ms) ++ t = frameB p ++ (joinB ms ++ t) := by simp [joinB]
    have hl : (joinB (p :: ms)).length = 8 + p.length + (joinB ms).length := by simp [joinB, frameB_len]
    simp only [framesFrom, endFrom, getAt_pre]
    rw [hj, getFront_frame p _ hpl]
    simp only [if_true]
    have e : pre ++ (frameB p ++ (joinB ms ++ t)) = (pre ++ frameB p) ++ (joinB ms ++ t) := by simp
    have el : pre.length + (8 + p.length) = (pre ++ frameB p).length := by rw [List.length_append, frameB_len]
    rw [e, el]
    obtain ⟨h1, h2⟩ := ih f (pre ++ frameB p) (fun q hq => hp q (by simp [hq])) (by simp at hf; omega)
    refine ⟨?_, ?_⟩
    · rw [List.map_cons, h1]
    · rw [h2, hl, ← el]; omega

theorem joinB_ge (ms : List (List UInt8)) : ms.length ≤ (joinB ms).length := by
  induction ms with
  | nil => simp
  | cons p ms ih =>
    have : (joinB (p :: ms)).length = 8 + p.length + (joinB ms).length := by simp [joinB, frameB_len]
    rw [this, List.length_cons]; omega

/-- The whole frames of bytes that begin with joined frames, and what stands behind them is none. -/
theorem all_join (ms : List (List UInt8)) (t : List UInt8) (hms : ∀ p ∈ ms, p.length ≤ 1048576) (ht : (getFront t).2.2 ≠ 0) :
    (framesOf (joinB ms ++ t)).map Prod.snd = ms ∧ endOf (joinB ms ++ t) = (joinB ms).length ∧ allE (joinB ms ++ t) = if t = [] then 0 else (getFront t).2.2 := by
  have hg := joinB_ge ms
  have := frames_join ms t ht ((joinB ms ++ t).length + 1) [] hms (by simp; omega)
  simp only [List.nil_append, List.length_nil, Nat.zero_add] at this
  refine ⟨this.1, this.2, ?_⟩
  have he : endOf (joinB ms ++ t) = (joinB ms).length := this.2
  unfold allE
  rw [he]
  by_cases h : t = []
  · subst h; simp
  · rw [if_neg h, if_neg (by have := List.length_pos_iff.2 h; simp; omega), getAt_pre]

/-- A front of a frame that is not whole. -/
theorem getFront_torn (p t s : List UInt8) (hp : p.length ≤ 1048576) (h : frameB p = t ++ s) (hs : s ≠ []) : getFront t = ([], 0, 2) := by
  unfold getFront
  by_cases h4 : t.length < 4
  · rw [if_pos h4]
  · rw [if_neg h4]
    have hw : word4 t = p.length := by
      have h1 : word4 (frameB p) = p.length := by unfold frameB; exact word4_le4 _ (by omega) _
      rw [← h1, h]
      have e : ∀ i, i < 4 → at0 (t ++ s) i = at0 t i := by
        intro i hi
        unfold at0
        rw [List.getElem?_append_left (by omega)]
      unfold word4
      rw [e 0 (by omega), e 1 (by omega), e 2 (by omega), e 3 (by omega)]
    have hl : t.length + s.length = 8 + p.length := by rw [← List.length_append, ← h, frameB_len]
    have := List.length_pos_iff.2 hs
    rw [hw, if_neg (by omega), if_pos (by omega)]

theorem joinB_split (ls : List (List UInt8)) (k : Nat) (h : k < ls.length) : joinB ls = joinB (ls.take k) ++ (frameB (ls[k]?.getD []) ++ joinB (ls.drop (k + 1))) := by
  have e : ls.drop k = ls[k]'h :: ls.drop (k + 1) := List.drop_eq_getElem_cons h
  have e2 : joinB ls = joinB (ls.take k) ++ joinB (ls.drop k) := by rw [← joinB_append, List.take_append_drop]
  rw [e2, e, List.getElem?_eq_getElem h]
  show joinB (ls.take k) ++ ((ls[k]'h :: ls.drop (k + 1)).map frameB).flatten = _
  rw [List.map_cons, List.flatten_cons]
  rfl

/-- All of a front of joined frames: k frames are whole in it. -/
theorem torn (ls : List (List UInt8)) (k cut : Nat) (hls : ∀ p ∈ ls, p.length ≤ 1048576) (hc : cut ≤ (joinB ls).length) (h1 : (joinB (ls.take k)).length ≤ cut)
    (h2 : k = ls.length ∨ (k < ls.length ∧ cut < (joinB (ls.take k)).length + 8 + (ls[k]?.getD []).length)) :
    (framesOf ((joinB ls).take cut)).map Prod.snd = ls.take k ∧ endOf ((joinB ls).take cut) = (joinB (ls.take k)).length ∧ allE ((joinB ls).take cut) = if (joinB (ls.take k)).length = cut then 0 else 2 := by
  have hms : ∀ p ∈ ls.take k, p.length ≤ 1048576 := fun p hp => hls p (List.mem_of_mem_take hp)
  rcases h2 with rfl | ⟨hk, h2⟩
  · rw [List.take_length] at *
    have : (joinB ls).take cut = joinB ls ++ [] := by rw [List.append_nil, List.take_of_length_le h1]
    rw [this]
    obtain ⟨a1, a2, a3⟩ := all_join ls [] hls (by decide)
    refine ⟨a1, a2, ?_⟩
    rw [a3, if_pos rfl, if_pos (by omega)]
  · have hp : (ls[k]?.getD []).length ≤ 1048576 := by rw [List.getElem?_eq_getElem hk]; exact hls _ (List.getElem_mem hk)
    have hsp := joinB_split ls k hk
    generalize ls[k]?.getD [] = p at *
    have ht : (joinB ls).take cut = joinB (ls.take k) ++ (frameB p).take (cut - (joinB (ls.take k)).length) := by
      rw [hsp, List.take_append, List.take_of_length_le h1]
      congr 1
      rw [List.take_append_of_le_length (by rw [frameB_len]; omega)]
    have hg : getFront ((frameB p).take (cut - (joinB (ls.take k)).length)) = ([], 0, 2) := by
      refine getFront_torn p _ ((frameB p).drop (cut - (joinB (ls.take k)).length)) hp (List.take_append_drop _ _).symm ?_
      intro h
      have := congrArg List.length h
      simp [frameB_len] at this
      omega
    rw [ht]
    obtain ⟨a1, a2, a3⟩ := all_join (ls.take k) ((frameB p).take (cut - (joinB (ls.take k)).length)) hms (by rw [hg]; decide)
    refine ⟨a1, a2, ?_⟩
    rw [a3, hg]
    by_cases h : (joinB (ls.take k)).length = cut
    · rw [if_pos h, if_pos (by rw [h, Nat.sub_self]; rfl)]
    · rw [if_neg h, if_neg]
      intro h'
      have := congrArg List.length h'
      simp [frameB_len] at this
      omega
end Go.Proofs.Ythhnjiodfbckcaa
