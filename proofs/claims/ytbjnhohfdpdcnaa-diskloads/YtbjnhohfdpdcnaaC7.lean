/-
  Whether two lists of files are the same: the document's.
-/
import Derived.Test.YtbjnhohfdpdcnaaC6
namespace Go.Proofs.Ytbjnhohfdpdcnaa
open Go.RowKit

def nilFl : Fl := ⟨[], none, 0, [], 0⟩
def FlAt (N : Nat) (w : World) (b off : Nat) (f : Fl) : Prop :=
  w.cell? ⟨b, off, none⟩ = some (.string ⟨f.nm.toArray⟩) ∧ w.cell? ⟨b, off + 1, none⟩ = some f.x ∧ w.cell? ⟨b, off + 2, none⟩ = some (.int .i64 f.syn) ∧ Sl N w f.x f.dat
/-- A list of files, in blocks below N. -/
def FlsAt (N : Nat) (w : World) (a : Option Addr) (fs : List Fl) : Prop :=
  fs = [] ∨ ∃ b off, a = some ⟨b, off, none⟩ ∧ b < N ∧ ∀ i, i < fs.length → FlAt N w b (off + i * 3) (fs.getD i nilFl)
theorem FlAt.below {N : Nat} {w w' : World} {b off : Nat} {f : Fl} (h : FlAt N w b off f) (hb : b < N) (hB : Below N w w') : FlAt N w' b off f :=
  ⟨(hB.cell (p := ⟨b, off, none⟩) hb).trans h.1, (hB.cell (p := ⟨b, off + 1, none⟩) hb).trans h.2.1, (hB.cell (p := ⟨b, off + 2, none⟩) hb).trans h.2.2.1, h.2.2.2.below hB⟩
theorem FlsAt.below {N : Nat} {w w' : World} {a : Option Addr} {fs : List Fl} (h : FlsAt N w a fs) (hB : Below N w w') : FlsAt N w' a fs := by
  rcases h with h | ⟨b, off, ha, hb, hc⟩
  · exact .inl h
  · exact .inr ⟨b, off, ha, hb, fun i hi => (hc i hi).below hb hB⟩
theorem FlsAt.mono {N M : Nat} {w : World} {a : Option Addr} {fs : List Fl} (h : FlsAt N w a fs) (hM : N ≤ M) : FlsAt M w a fs := by
  rcases h with h | ⟨b, off, ha, hb, hc⟩
  · exact .inl h
  · exact .inr ⟨b, off, ha, by omega, fun i hi => ⟨(hc i hi).1, (hc i hi).2.1, (hc i hi).2.2.1, (hc i hi).2.2.2.mono hM⟩⟩
theorem FlsAt.at {N : Nat} {w : World} {a : Option Addr} {fs : List Fl} (h : FlsAt N w a fs) {i : Nat} (hi : i < fs.length) : ∃ b off, a = some ⟨b, off, none⟩ ∧ b < N ∧ FlAt N w b (off + i * 3) (fs.getD i nilFl) := by
  rcases h with h | ⟨b, off, ha, hb, hc⟩
  · subst h; simp at hi
  · exact ⟨b, off, ha, hb, hc i hi⟩
theorem cellsOf_at : ∀ (fs : List Fl) (i j : Nat), i < fs.length → j < 3 → (cellsOf fs)[i * 3 + j]? = (fs.getD i nilFl).cells[j]?
  | [], i, _, h, _ => by simp at h
  | f :: r, 0, j, _, hj => by
    simp only [cellsOf, List.map_cons, List.flatten_cons, Nat.zero_mul, Nat.zero_add, List.getD_cons_zero]
    rw [List.getElem?_append_left (by simp [Fl.cells]; omega)]
  | f :: r, i + 1, j, h, hj => by
    have ih := cellsOf_at r i j (by simpa using h) hj
    simp only [cellsOf, List.map_cons, List.flatten_cons, List.getD_cons_succ] at *
    rw [List.getElem?_append_right (by simp [Fl.cells]; omega), ← ih]
    congr 1
    simp [Fl.cells]
    omega
theorem FilesIn.at {N : Nat} {w : World} {v : Value} {fs : List Fl} (h : FilesIn N w v fs) : ∃ a c, v = .slice a fs.length c ∧ fs.length ≤ c ∧ c ≤ maxLen ∧ FlsAt w.heap.size w a fs := by
  rcases h.row.2 with ⟨rfl, h0⟩ | ⟨g, cap, cur, rfl, _, hb, h1, h2, h3, h4⟩
  · exact ⟨none, 0, by rw [h0], by omega, by unfold maxLen; omega, .inl (List.length_eq_zero_iff.1 h0)⟩
  · refine ⟨_, _, rfl, h1, h2, .inr ⟨g, 0, rfl, (Array.getElem?_eq_some_iff.1 hb).1, fun i hi => ?_⟩⟩
    have key : ∀ j, j < 3 → w.cell? ⟨g, 0 + i * 3 + j, none⟩ = (fs.getD i nilFl).cells[j]? := fun j hj => by
      have e1 := cellsOf_at fs i j hi hj
      have e2 : (cur.toList.take (fs.length * 3))[i * 3 + j]? = (cellsOf fs)[i * 3 + j]? := by rw [h4]
      rw [List.getElem?_take_of_lt (by omega), e1] at e2
      simp only [World.cell?, hb, Nat.zero_add]
      simpa using e2
    have hm : fs.getD i nilFl ∈ fs := by
      rw [List.getD_eq_getElem?_getD, List.getElem?_eq_getElem hi]; exact List.getElem_mem hi
    refine ⟨key 0 (by omega), key 1 (by omega), key 2 (by omega), (h.own _ hm).sl (Nat.le_refl _)⟩

def saysF (fs : List Fl) : List (List UInt8 × List UInt8 × Int) := fs.map Fl.says
theorem take_fl {fs : List Fl} {k : Nat} (h : k < fs.length) : fs.take (k + 1) = fs.take k ++ [fs.getD k nilFl] := by
  rw [List.take_succ_eq_append_getElem h, List.getD_eq_getElem?_getD, List.getElem?_eq_getElem h]; rfl
theorem drop_fl {l : List Fl} {k : Nat} (h : k < l.length) : l.drop k = l.getD k nilFl :: l.drop (k + 1) := by
  rw [List.drop_eq_getElem_cons h, List.getD_eq_getElem?_getD, List.getElem?_eq_getElem h]; rfl
theorem saysF_drop {a b : List Fl} {k : Nat} (h : saysF (a.take k) = saysF (b.take k)) : (saysF a = saysF b) ↔ (saysF (a.drop k) = saysF (b.drop k)) := by
  have e1 : saysF a = saysF (a.take k) ++ saysF (a.drop k) := by unfold saysF; rw [← List.map_append, List.take_append_drop]
  have e2 : saysF b = saysF (b.take k) ++ saysF (b.drop k) := by unfold saysF; rw [← List.map_append, List.take_append_drop]
  rw [e1, e2, h]
  simp

set_option maxRecDepth 100000 in
set_option maxHeartbeats 8000000 in
theorem sameFiles_any (a b : Option Addr) (ca cb : Nat) (es fs : List Fl) (N : Nat) (w : World) (h1 : FlsAt N w a es) (h2 : FlsAt N w b fs) (hN : N ≤ w.heap.size) (hz : es.length ≤ 1000000000) :
    Calls Try.prog 17 #[.slice a es.length ca, .slice b fs.length cb] w fun e w' => e = .returned (.bool (decide (saysF es = saysF fs))) ∧ Below w.heap.size w w' := by
  have H1 : Hid (FlsAt N w a es) := h1
  have H2 : Hid (FlsAt N w b fs) := h2
  clear h1 h2
  by_cases hl : es.length = fs.length
  case neg =>
    have hl' : ((es.length : Int) != (fs.length : Int)) = true := by simp; omega
    have e0 : decide (saysF es = saysF fs) = false := by
      simp only [decide_eq_false_iff_not]
      intro h
      have := congrArg List.length h
      simp [saysF] at this
      exact hl this
    rw [e0]
    clear hl
    go_enter Try.func17, Try.ntmps17
    go_wp2
    go_ret
    exact ⟨rfl, Below.refl _ _⟩
  have hl' : ((es.length : Int) != (fs.length : Int)) = false := by simp; omega
  have HL : Hid (es.length = fs.length) := hl
  have hle : es.length ≤ fs.length := by omega
  clear hl
  go_enter Try.func17, Try.ntmps17
  go_wp2
  go_loopw [5] (fun iv wr => ∃ (k : Nat), iv = .int .i64 (k : Int) ∧ k ≤ es.length ∧ saysF (es.take k) = saysF (fs.take k) ∧ Below w.heap.size w wr) (fun iv _ => es.length - (intOf iv).toNat)
  case atStart => exact ⟨0, rfl, Nat.zero_le _, by simp, Below.refl _ _⟩
  case round =>
    obtain ⟨k, rfl, hk, hg, hB⟩ := hrel
    have HG : Hid (saysF (es.take k) = saysF (fs.take k)) := hg
    have HB : Hid (Below w.heap.size w wr) := hB
    clear hg
    by_cases hlt : k < es.length
    · have hlt2 : k < fs.length := by omega
      obtain ⟨b1, o1, hea, hb1, he1⟩ := H1.out.at hlt
      obtain ⟨b2, o2, heb, hb2, he2⟩ := H2.out.at hlt2
      subst hea heb
      have hx1 := he1.below hb1 (hB.mono hN)
      have hx2 := he2.below hb2 (hB.mono hN)
      have HD1 : Hid (es.drop k = es.getD k nilFl :: es.drop (k + 1)) := drop_fl hlt
      have HD2 : Hid (fs.drop k = fs.getD k nilFl :: fs.drop (k + 1)) := drop_fl hlt2
      have HT1 : Hid (es.take (k + 1) = es.take k ++ [es.getD k nilFl]) := take_fl hlt
      have HT2 : Hid (fs.take (k + 1) = fs.take k ++ [fs.getD k nilFl]) := take_fl hlt2
      generalize es.getD k nilFl = e at *
      generalize fs.getD k nilFl = f at *
      have HR : Hid (saysF es = saysF fs → e.says = f.says) := by
        intro h
        rw [saysF_drop HG.out, HD1.out, HD2.out] at h
        simp only [saysF, List.map_cons, List.cons.injEq] at h
        exact h.1
      have HS0 : Hid (e.says = f.says → saysF (es.take (k + 1)) = saysF (fs.take (k + 1))) := by
        intro h
        rw [HT1.out, HT2.out]
        have := HG.out
        simp only [saysF, List.map_append, List.map_cons, List.map_nil] at this ⊢
        rw [this, h]
      obtain ⟨n1, a1, c1, d1, s1⟩ := e
      obtain ⟨n2, a2, c2, d2, s2⟩ := f
      have HS : Hid (n1 = n2 ∧ d1 = d2 ∧ s1 = s2 → saysF (es.take (k + 1)) = saysF (fs.take (k + 1))) := fun h => HS0.out (by simp [Fl.says, h])
      obtain ⟨p0, p1, p2, p3⟩ := hx1
      obtain ⟨q0, q1, q2, q3⟩ := hx2
      unfold Fl.x at p1 p3 q1 q3
      unfold Fl.says at HR
      simp only at p0 p1 p2 p3 q0 q1 q2 q3 HR
      have hdr : Below N wr wr.drew := ⟨rfl, rfl, rfl, Nat.le_refl _, fun _ _ => rfl⟩
      have hp := same_any N _ _ d1 d2 wr.drew (p3.below hdr) (q3.below hdr)
      have hi2 : (k : Int) < (fs.length : Int) := by omega
      have hi1 : (k : Int) < (es.length : Int) := by omega
      have hi0 : (0 : Int) ≤ (k : Int) := by omega
      clear he1 he2 hB p3 q3 HS0
      by_cases hd : d1 = d2
      · subst hd
        rw [show decide (d1 = d1) = true from by simp] at hp
        by_cases hn : n1 = n2
        · subst hn
          by_cases hs : s1 = s2
          · subst hs
            go_wp2_with fail
            go_region_held3 (fun w' => w'.cell? ⟨b1, o1 + k * 3, none⟩ = some (.string ⟨n1.toArray⟩) ∧ w'.cell? ⟨b1, o1 + k * 3 + 1, none⟩ = some (.slice a1 d1.length c1) ∧ w'.cell? ⟨b1, o1 + k * 3 + 2, none⟩ = some (.int .i64 s1) ∧ w'.cell? ⟨b2, o2 + k * 3, none⟩ = some (.string ⟨n1.toArray⟩) ∧ w'.cell? ⟨b2, o2 + k * 3 + 1, none⟩ = some (.slice a2 d1.length c2) ∧ w'.cell? ⟨b2, o2 + k * 3 + 2, none⟩ = some (.int .i64 s1)) (go_keep)
              (first | (go_at_call 30; refine hp.mono ?_; rintro e w5 ⟨rfl, nn, rfl⟩) | fail)
            go_wp2_with fail
            go_quiet (fail)
            go_wp2
            refine ⟨⟨k + 1, by go_num, by omega, HS.out (by simp), ?_⟩, by simp [intOf]; omega⟩
            exact HB.out.trans ⟨rfl, rfl, rfl, Nat.le_refl _, fun _ _ => rfl⟩
          · have hs' : (s1 != s2) = true := by simpa using hs
            have HE : Hid (decide (saysF es = saysF fs) = false) := by
              show decide (saysF es = saysF fs) = false
              simp only [decide_eq_false_iff_not]
              intro h
              have := HR.out h
              simp at this
              exact hs this
            go_wp2_with fail
            go_region_held3 (fun w' => w'.cell? ⟨b1, o1 + k * 3, none⟩ = some (.string ⟨n1.toArray⟩) ∧ w'.cell? ⟨b1, o1 + k * 3 + 1, none⟩ = some (.slice a1 d1.length c1) ∧ w'.cell? ⟨b1, o1 + k * 3 + 2, none⟩ = some (.int .i64 s1) ∧ w'.cell? ⟨b2, o2 + k * 3, none⟩ = some (.string ⟨n1.toArray⟩) ∧ w'.cell? ⟨b2, o2 + k * 3 + 1, none⟩ = some (.slice a2 d1.length c2) ∧ w'.cell? ⟨b2, o2 + k * 3 + 2, none⟩ = some (.int .i64 s2)) (go_keep)
              (first | (go_at_call 30; refine hp.mono ?_; rintro e w5 ⟨rfl, nn, rfl⟩) | fail)
            go_wp2_with fail
            go_quiet (fail)
            go_wp2
            go_ret
            exact ⟨by rw [HE.out]; rfl, HB.out.trans ⟨rfl, rfl, rfl, Nat.le_refl _, fun _ _ => rfl⟩⟩
        · have hn' : (n1 == n2) = false := by simpa using hn
          have HE : Hid (decide (saysF es = saysF fs) = false) := by
            show decide (saysF es = saysF fs) = false
            simp only [decide_eq_false_iff_not]
            intro h
            have := HR.out h
            simp at this
            exact hn this.1
          go_wp2_with fail
          go_region_held3 (fun w' => w'.cell? ⟨b1, o1 + k * 3, none⟩ = some (.string ⟨n1.toArray⟩) ∧ w'.cell? ⟨b1, o1 + k * 3 + 1, none⟩ = some (.slice a1 d1.length c1) ∧ w'.cell? ⟨b1, o1 + k * 3 + 2, none⟩ = some (.int .i64 s1) ∧ w'.cell? ⟨b2, o2 + k * 3, none⟩ = some (.string ⟨n2.toArray⟩) ∧ w'.cell? ⟨b2, o2 + k * 3 + 1, none⟩ = some (.slice a2 d1.length c2) ∧ w'.cell? ⟨b2, o2 + k * 3 + 2, none⟩ = some (.int .i64 s2)) (go_keep)
            (first | (go_at_call 30; refine hp.mono ?_; rintro e w5 ⟨rfl, nn, rfl⟩) | fail)
          go_wp2_with fail
          go_quiet (fail)
          go_wp2
          go_ret
          exact ⟨by rw [HE.out]; rfl, HB.out.trans ⟨rfl, rfl, rfl, Nat.le_refl _, fun _ _ => rfl⟩⟩
      · rw [show decide (d1 = d2) = false from by simpa using hd] at hp
        have HE : Hid (decide (saysF es = saysF fs) = false) := by
          show decide (saysF es = saysF fs) = false
          simp only [decide_eq_false_iff_not]
          intro h
          have := HR.out h
          simp at this
          exact hd this.2.1
        go_wp2_with fail
        go_region_held3 (fun w' => w'.cell? ⟨b1, o1 + k * 3, none⟩ = some (.string ⟨n1.toArray⟩) ∧ w'.cell? ⟨b1, o1 + k * 3 + 1, none⟩ = some (.slice a1 d1.length c1) ∧ w'.cell? ⟨b1, o1 + k * 3 + 2, none⟩ = some (.int .i64 s1) ∧ w'.cell? ⟨b2, o2 + k * 3, none⟩ = some (.string ⟨n2.toArray⟩) ∧ w'.cell? ⟨b2, o2 + k * 3 + 1, none⟩ = some (.slice a2 d2.length c2) ∧ w'.cell? ⟨b2, o2 + k * 3 + 2, none⟩ = some (.int .i64 s2)) (go_keep)
          (first | (go_at_call 30; refine hp.mono ?_; rintro e w5 ⟨rfl, nn, rfl⟩) | fail)
        go_wp2_with fail
        go_quiet (fail)
        go_wp2
        go_ret
        exact ⟨by rw [HE.out]; rfl, HB.out.trans ⟨rfl, rfl, rfl, Nat.le_refl _, fun _ _ => rfl⟩⟩
    · have HE : Hid (decide (saysF es = saysF fs) = true) := by
        show decide (saysF es = saysF fs) = true
        have := HG.out
        rw [List.take_of_length_le (by omega), List.take_of_length_le (by have := HL.out; omega)] at this
        simpa using this
      go_wp2
      go_ret
      exact ⟨by rw [HE.out]; rfl, HB.out⟩
end Go.Proofs.Ytbjnhohfdpdcnaa
