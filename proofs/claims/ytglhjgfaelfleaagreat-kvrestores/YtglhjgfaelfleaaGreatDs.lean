/-
  The document's store: rows by rising keys; a key's place; Get.
-/
import Derived.Test.YtglhjgfaelfleaaGreatDw
import Derived.Handy
namespace Go.Proofs.YtglhjgfaelfleaaGreat
open Go.RowKit
set_option linter.unusedVariables false

def RQ : RK (Bs × Bs) := ⟨68, 60, 2, 32, .agg #[.string ⟨[].toArray⟩, .string ⟨[].toArray⟩], encPr, fun _ => rfl, fun x v hv => by simp [encPr] at hv; rcases hv with rfl | rfl <;> rfl, by decide, Tryz.underlying60, by kernel_rfl, rfl, by decide⟩
def RT : RK Se := ⟨70, 61, 4, 40, .agg #[.int .i64 0, .int .i64 0, .int .i64 0, .string ⟨[].toArray⟩], encE, fun _ => rfl, fun x v hv => by simp [encE] at hv; rcases hv with rfl | rfl | rfl | rfl <;> rfl, by decide, Tryz.underlying61, by kernel_rfl, rfl, by decide⟩

/-- Block d holds the document's store, by the rows vp and vs. -/
structure DS (N : Nat) (W : World) (d : Nat) (vp vs : Value) (K : KV) : Prop where
  hd : W.heap[d]? = some (.cells #[vp, vs] 63 (0, 0))
  rp : Ro RQ N W vp K.ps
  rs : Ro RT N W vs K.ss
  low : N ≤ d
  ris : Ris kP K.ps
  rise : Ris kS K.ss
  ok : K.Ok
theorem DS.below {N : Nat} {W W' : World} {d : Nat} {vp vs : Value} {K : KV} (h : DS N W d vp vs K) (hB : Below W.heap.size W W') : DS N W' d vp vs K :=
  ⟨(hB.block d (Array.getElem?_eq_some_iff.1 h.hd).1).trans h.hd, h.rp.below hB (Nat.le_refl _), h.rs.below hB (Nat.le_refl _), h.low, h.ris, h.rise, h.ok⟩
theorem DS.kpt {N mp ms : Nat} {W W' : World} {d : Nat} {vp vs : Value} {K : KV} (h : DS N W d vp vs K) (hk : Kpt mp ms W W') : DS N W' d vp vs K :=
  ⟨hk.2 d _ (by simp) h.hd, h.rp.kpt hk, h.rs.kpt hk, h.low, h.ris, h.rise, h.ok⟩
theorem DS.cells {N : Nat} {W : World} {d : Nat} {vp vs : Value} {K : KV} (h : DS N W d vp vs K) : W.cell? ⟨d, 0, none⟩ = some vp ∧ W.cell? ⟨d, 1, none⟩ = some vs := by
  constructor <;> (simp only [World.cell?, h.hd]; rfl)

/-- A key's place. -/
def plc (key : Bs) (ps : List (Bs × Bs)) : Nat := (ps.takeWhile (fun p => bytesBefore p.1 key)).length
theorem plc_le (key : Bs) (ps : List (Bs × Bs)) : plc key ps ≤ ps.length := (List.takeWhile_prefix _).length_le
theorem tw_take {α : Type} {f : α → Bool} : ∀ {xs : List α} {k : Nat}, k < (xs.takeWhile f).length → ∃ h : k < xs.length, f xs[k] = true
  | [], k, h => by simp at h
  | x :: q, k, h => by
    rw [List.takeWhile_cons] at h
    split at h
    · rename_i hf
      cases k with
      | zero => exact ⟨by simp, hf⟩
      | succ k =>
        obtain ⟨h1, h2⟩ := tw_take (xs := q) (k := k) (by simpa using h)
        exact ⟨by simpa using h1, by simpa using h2⟩
    · simp at h
theorem tw_stop {α : Type} {f : α → Bool} : ∀ {xs : List α} (h : (xs.takeWhile f).length < xs.length), f xs[(xs.takeWhile f).length] = false
  | [], h => by simp at h
  | x :: q, h => by
    cases hf : f x with
    | false =>
      have e : (x :: q).takeWhile f = [] := by rw [List.takeWhile_cons, hf]; rfl
      simp only [e, List.length_nil, List.getElem_cons_zero, hf]
    | true =>
      have e : (x :: q).takeWhile f = x :: q.takeWhile f := by rw [List.takeWhile_cons, hf]; rfl
      have h' : (q.takeWhile f).length < q.length := by rw [e] at h; simpa using h
      have := tw_stop h'
      simp only [e, List.length_cons, List.getElem_cons_succ]
      exact this
/-- There, or not. -/
def atP (key : Bs) (ps : List (Bs × Bs)) : Bool := match ps[plc key ps]? with | some p => p.1 == key | none => false

set_option maxRecDepth 100000 in
set_option maxHeartbeats 800000 in
theorem at_any {N : Nat} {W : World} {d : Nat} {vp vs : Value} {K : KV} (h : DS N W d vp vs K) (key : Bs) :
    Calls Tryz.prog 71 #[.pointer (some ⟨d, 0, none⟩), .string ⟨key.toArray⟩] W fun e w' => e = .returned (.tuple #[.int .i64 (plc key K.ps : Int), .bool (atP key K.ps)]) ∧ Below W.heap.size W w' := by
  have HD : Hid (DS N W d vp vs K) := h
  obtain ⟨pa, pc, rfl, -, -⟩ := h.rp.shape
  have hfew := h.ok.few
  have hpl := plc_le key K.ps
  clear h
  have HF : Hid (∀ k, k < plc key K.ps → ∃ h : k < K.ps.length, bytesBefore K.ps[k].1 key = true) := fun k hk => tw_take hk
  have HG : Hid (∀ h : plc key K.ps < K.ps.length, bytesBefore K.ps[plc key K.ps].1 key = false) := fun h => tw_stop h
  have HA : Hid (atP key K.ps = match K.ps[plc key K.ps]? with | some p => p.1 == key | none => false) := rfl
  generalize atP key K.ps = at' at *
  generalize plc key K.ps = pl at *
  go_enter Tryz.func71, Tryz.ntmps71
  go_wp2_with fail
  go_loopw [6] (fun kv wr => ∃ k : Nat, kv = .int .i64 (k : Int) ∧ k ≤ pl ∧ wr = W) (fun kv _ => pl - (intOf kv).toNat)
  case atStart => exact ⟨0, rfl, Nat.zero_le _, rfl⟩
  case round =>
    obtain ⟨k, rfl, hk, rfl⟩ := hrel
    obtain ⟨c0, c1⟩ := HD.out.cells
    by_cases hlt : k < pl
    · obtain ⟨hkl, hbb⟩ := HF.out k hlt
      have hkl' : (k : Int) < (K.ps.length : Int) := by omega
      have hi0 : (0 : Int) ≤ (k : Int) := by omega
      obtain ⟨g, cp, hv, -, hgl, -, hcell⟩ := HD.out.rp.at0 (by omega)
      cases hv
      have x0 := hcell k 0 hkl (by decide)
      generalize K.ps[k] = p at *
      have x0' : wr.cell? ⟨g, k * 2, none⟩ = some (.string ⟨p.1.toArray⟩) := x0
      obtain ⟨pk', pv⟩ := p
      dsimp only at x0' hbb
      have hbl : Op.bytesLess pk' key = true := by rw [bytesLess_before]; exact hbb
      clear hcell x0 hbb
      go_wp2
      go_roundw
      case rel => exact ⟨k + 1, by go_num, by omega, by simp⟩
      case measure => simp [intOf]; omega
    · obtain rfl : k = pl := by omega
      by_cases hkl : k < K.ps.length
      · have hkl' : (k : Int) < (K.ps.length : Int) := by omega
        have hi0 : (0 : Int) ≤ (k : Int) := by omega
        obtain ⟨g, cp, hv, -, hgl, -, hcell⟩ := HD.out.rp.at0 (by omega)
        cases hv
        have x0 := hcell k 0 hkl (by decide)
        have hbb := HG.out hkl
        have ha := HA.out
        rw [List.getElem?_eq_getElem hkl] at ha
        generalize K.ps[k] = p at *
        have x0' : wr.cell? ⟨g, k * 2, none⟩ = some (.string ⟨p.1.toArray⟩) := x0
        obtain ⟨pk', pv⟩ := p
        dsimp only at x0' hbb ha
        have hbl : Op.bytesLess pk' key = false := by rw [bytesLess_before]; exact hbb
        have HA2 : Hid (at' = (pk' == key)) := ha
        clear hcell x0 hbb ha HA HF HG
        go_wp2_with fail
        go_quiet (fail)
        go_wp2
        go_ret2
        exact ⟨by rw [HA2.out]; rfl, Below.drewN' (Below.refl _ _) _⟩
      · have hkl' : decide ((k : Int) < (K.ps.length : Int)) = false := by simp; omega
        have ha := HA.out
        rw [List.getElem?_eq_none (by omega)] at ha
        have HA2 : Hid (at' = false) := ha
        clear ha HA HF HG
        go_wp2_with fail
        go_quiet (fail)
        go_wp2
        go_ret2
        exact ⟨by rw [HA2.out]; rfl, Below.drewN' (Below.refl _ _) _⟩

/-- What Get answers. -/
theorem plc_look {key : Bs} {ps : List (Bs × Bs)} (hr : Ris kP ps) : (atP key ps = true ∧ ∃ h : plc key ps < ps.length, ps[plc key ps].1 = key ∧ lookP key ps = some ps[plc key ps]) ∨ (atP key ps = false ∧ lookP key ps = none) := by
  by_cases h : plc key ps < ps.length
  · have hs := tw_stop h
    have ha : atP key ps = (ps[plc key ps].1 == key) := by unfold atP; rw [List.getElem?_eq_getElem h]
    by_cases e : ps[plc key ps].1 = key
    · left
      refine ⟨by rw [ha]; simpa using e, h, e, ?_⟩
      cases hq : lookP key ps with
      | none =>
        have := lookK_none hq _ (List.getElem_mem h)
        simp [kP, Lit.sameKey, e] at this
      | some y =>
        obtain ⟨h1, h2⟩ := lookK_some hq
        rw [key_inj (ris_neP hr) h1 (List.getElem_mem h) (by rw [WideAt.sameKey_eq h2]; simp [kP, e])]
    · right
      refine ⟨by rw [ha]; simpa using e, ?_⟩
      cases hq : lookP key ps with
      | none => rfl
      | some y =>
        exfalso
        obtain ⟨h1, h2⟩ := lookK_some hq
        have hy : y.1 = key := by have := WideAt.sameKey_eq h2; simpa [kP] using this
        obtain ⟨j, hj, rfl⟩ := List.mem_iff_getElem.1 h1
        rcases Nat.lt_trichotomy j (plc key ps) with hlt | heq | hgt
        · obtain ⟨_, h3⟩ := tw_take hlt
          rw [hy, WideAt.bytes_irrefl] at h3; cases h3
        · subst heq; exact e hy
        · have h4 := List.pairwise_iff_getElem.1 hr (plc key ps) j h hj hgt
          have h5 : bytesBefore ps[plc key ps].1 ps[j].1 = true := h4
          rw [hy] at h5
          have hs' : bytesBefore ps[plc key ps].1 key = false := hs
          rw [hs'] at h5; cases h5
  · right
    refine ⟨by unfold atP; rw [List.getElem?_eq_none (by omega)], ?_⟩
    cases hq : lookP key ps with
    | none => rfl
    | some y =>
      exfalso
      obtain ⟨h1, h2⟩ := lookK_some hq
      have hy : y.1 = key := by have := WideAt.sameKey_eq h2; simpa [kP] using this
      obtain ⟨j, hj, rfl⟩ := List.mem_iff_getElem.1 h1
      obtain ⟨_, h3⟩ := tw_take (f := fun p : Bs × Bs => bytesBefore p.1 key) (xs := ps) (k := j) (by have h' : ps.length ≤ (ps.takeWhile (fun p => bytesBefore p.1 key)).length := Nat.le_of_not_lt h; omega)
      rw [hy, WideAt.bytes_irrefl] at h3; cases h3
end Go.Proofs.YtglhjgfaelfleaaGreat
